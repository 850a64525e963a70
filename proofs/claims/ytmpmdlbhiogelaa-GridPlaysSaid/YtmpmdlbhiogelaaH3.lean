/-
  GridPlays, what is done 3: walked. No conditions.
-/
import Derived.Test.YtmpmdlbhiogelaaED
namespace Go.Proofs.Ytmpmdlbhiogelaa
open Go.RowKit

set_option maxRecDepth 100000 in
set_option maxHeartbeats 16000000 in
theorem plays_do3 {sw : Code} {w wr W1 : World} {X1 X2 B : Nat} {a : Ac} {G O : Gr} {q p : Rf} {f g : Nat → Cl} {J K' K1 K2 K3 : Act → World → Prop} {s0 s1 s2 s3 s4 s5 s6 s7 s8 s13 s15 s16 s17 s18 s19 s20 s21 s22 s23 s24 s25 s26 s27 s28 s29 s30 s31 s32 s33 s34 s35 s36 s37 s38 s39 s40 s41 s42 s43 s44 s45 s46 s47 s48 s49 s50 s51 s52 s53 s54 s55 s56 s57 s58 s59 s60 s61 s62 s63 s64 s65 s67 s68 s69 s70 s71 s72 s73 s74 s75 s76 s77 s78 s79 s80 s81 s82 s83 s84 s85 s86 s87 s88 s89 s90 s91 s92 s93 s94 s95 s96 s97 s98 s99 s100 s101 s102 s103 s104 s105 s106 s107 s108 s109 s110 s111 s112 s113 s114 s115 s116 s117 s118 s119 s120 s121 s122 s123 s124 s125 s126 s127 s128 s129 s130 s131 s132 s133 s134 s135 s136 s137 s138 s139 s140 s141 s142 s143 s144 s145 s146 s147 s148 s149 s150 s151 s152 s153 s154 s155 s156 s157 s158 s159 s160 s161 s162 s163 s164 s165 s166 s167 s168 s169 s170 s171 s172 s173 s174 s175 s176 s177 s178 s179 s180 s181 s182 s183 s184 s185 s186 s187 s188 s189 s190 s191 s192 s193 s194 s195 s196 s197 s198 s199 s200 s201 s202 s203 s204 s205 s206 s207 s208 s209 s210 s211 s212 s213 s214 s215 s216 s217 s218 s219 s220 s221 s222 s223 s224 s225 s226 s227 s228 s229 s230 s231 s232 s233 s234 s235 s236 s237 s238 s239 s240 s241 s242 s243 s244 s245 s246 s247 s248 s249 s250 s251 s252 : Value}
    (hsw : sw = switch3) (h3 : a.d = 3) (HP : Hid (PL w X1 X2 B a G O q p f f g g W1)) (HZ : Hid (q.w = G.w ∧ q.h = G.h ∧ p.w = O.w ∧ p.h = O.h)) (_HQ0 : Hid (RefAt wr q f)) (_HWF : Hid (I64 a.x ∧ I64 a.y))
    (hK : ∀ (a' : Act) (w' : World), Met J a' w' → K' a' w') (hR : ∀ (a' : Act) (w' : World), (∃ u6 u9 u15 u16 u17 u18 u19 u20 u21 u22 u23 u24 u55 u56 u57 u58 u59 u60 u61 u62 u63 u64 u65 u66 u67 u68 u69 u70 u71 u72 u73 u74 u75 u76 u77 u78 u79 u80 u81 u82 u83 u84 u85 u86 u87 u88 u89 u90 u91 u92 u93 u94 u95 u96 u97 u98 u99 u100 u101 u102 u103 u104 u105 u106 u107 u108 u109 u110 u111 u112 u113 u114 u115 u116 u117 u118 u119 u120 u121 u122 u123 u124 u125 u126 u127 u128 u129 u130 u131 u132 u133 u134 u135 u136 u137 u138 u139 u140 u141 u142 u143 u144 u145 u146 u147 u148 u149 u150 u151 u152 u153 u154 u155 u156 u157 u158 u159 u160 u161 u162 u163 u164 u165 u166 u167 u168 u169 u170 u171 u172 u173 u174 u175 u176 u177 u178 u179 u180 u181 u182 u183 u184 u185 u186 u187 u188 u189 u190 u191 u192 u193 u194 u195 u196 u197 u198 u199 u200 u201 u202 u203 u204 u205 u206 u207 u208 u209 u210 u211 u212 u213 u214 u215 u216 u217 u218 u219 u220 u221 u222 u223 u224 u225 u226 u227 u228 u229 u230 u231 u232 u233 u234 u235 u236 u237 u238 u239 u240 u241 u242 u243 u244 u245 u246 u247 u248 u249 u250 u251 : Value, (∃ G q p f g, u9 = .pointer (some ⟨G.g, 0, none⟩) ∧ Hid (PL w X1 X2 B a G O q p f f g g w' ∧ (q.w = G.w ∧ q.h = G.h ∧ p.w = O.w ∧ p.h = O.h))) ∧ a' = ⟨(s0 :: s1 :: s2 :: s3 :: s4 :: s5 :: u6 :: s7 :: s8 :: u9 :: (.pointer (some ⟨O.g, 0, none⟩)) :: (.pointer (some ⟨X1, 0, none⟩)) :: (.pointer (some ⟨X2, 0, none⟩)) :: s13 :: (.pointer (some ⟨B, 0, none⟩)) :: u15 :: u16 :: u17 :: u18 :: u19 :: u20 :: u21 :: u22 :: u23 :: u24 :: s25 :: s26 :: s27 :: s28 :: s29 :: s30 :: s31 :: s32 :: s33 :: s34 :: s35 :: s36 :: s37 :: s38 :: s39 :: s40 :: s41 :: s42 :: s43 :: s44 :: s45 :: s46 :: s47 :: s48 :: s49 :: s50 :: s51 :: s52 :: s53 :: s54 :: u55 :: u56 :: u57 :: u58 :: u59 :: u60 :: u61 :: u62 :: u63 :: u64 :: u65 :: u66 :: u67 :: u68 :: u69 :: u70 :: u71 :: u72 :: u73 :: u74 :: u75 :: u76 :: u77 :: u78 :: u79 :: u80 :: u81 :: u82 :: u83 :: u84 :: u85 :: u86 :: u87 :: u88 :: u89 :: u90 :: u91 :: u92 :: u93 :: u94 :: u95 :: u96 :: u97 :: u98 :: u99 :: u100 :: u101 :: u102 :: u103 :: u104 :: u105 :: u106 :: u107 :: u108 :: u109 :: u110 :: u111 :: u112 :: u113 :: u114 :: u115 :: u116 :: u117 :: u118 :: u119 :: u120 :: u121 :: u122 :: u123 :: u124 :: u125 :: u126 :: u127 :: u128 :: u129 :: u130 :: u131 :: u132 :: u133 :: u134 :: u135 :: u136 :: u137 :: u138 :: u139 :: u140 :: u141 :: u142 :: u143 :: u144 :: u145 :: u146 :: u147 :: u148 :: u149 :: u150 :: u151 :: u152 :: u153 :: u154 :: u155 :: u156 :: u157 :: u158 :: u159 :: u160 :: u161 :: u162 :: u163 :: u164 :: u165 :: u166 :: u167 :: u168 :: u169 :: u170 :: u171 :: u172 :: u173 :: u174 :: u175 :: u176 :: u177 :: u178 :: u179 :: u180 :: u181 :: u182 :: u183 :: u184 :: u185 :: u186 :: u187 :: u188 :: u189 :: u190 :: u191 :: u192 :: u193 :: u194 :: u195 :: u196 :: u197 :: u198 :: u199 :: u200 :: u201 :: u202 :: u203 :: u204 :: u205 :: u206 :: u207 :: u208 :: u209 :: u210 :: u211 :: u212 :: u213 :: u214 :: u215 :: u216 :: u217 :: u218 :: u219 :: u220 :: u221 :: u222 :: u223 :: u224 :: u225 :: u226 :: u227 :: u228 :: u229 :: u230 :: u231 :: u232 :: u233 :: u234 :: u235 :: u236 :: u237 :: u238 :: u239 :: u240 :: u241 :: u242 :: u243 :: u244 :: u245 :: u246 :: u247 :: u248 :: u249 :: u250 :: u251 :: s252 :: []).toArray, []⟩) → J a' w') :
    Code.wp Try.prog sw (Exit.then K' (Exit.inBlock 1 (Exit.then K1 (Exit.then K2 (Exit.inBlock 0 (Exit.then K3 (bodyPost Try.prog Try.f3 (LawTrue w)))))))) ⟨(s0 :: s1 :: s2 :: s3 :: s4 :: s5 :: s6 :: s7 :: s8 :: (.pointer (some ⟨G.g, 0, none⟩)) :: (.pointer (some ⟨O.g, 0, none⟩)) :: (.pointer (some ⟨X1, 0, none⟩)) :: (.pointer (some ⟨X2, 0, none⟩)) :: s13 :: (.pointer (some ⟨B, 0, none⟩)) :: s15 :: s16 :: s17 :: s18 :: s19 :: s20 :: s21 :: s22 :: s23 :: s24 :: s25 :: s26 :: s27 :: s28 :: s29 :: s30 :: s31 :: s32 :: s33 :: s34 :: s35 :: s36 :: s37 :: s38 :: s39 :: s40 :: s41 :: s42 :: s43 :: s44 :: s45 :: s46 :: s47 :: s48 :: s49 :: s50 :: s51 :: s52 :: s53 :: s54 :: s55 :: s56 :: s57 :: s58 :: s59 :: s60 :: s61 :: s62 :: s63 :: s64 :: s65 :: (.int .i64 a.d) :: s67 :: s68 :: s69 :: s70 :: s71 :: s72 :: s73 :: s74 :: s75 :: s76 :: s77 :: s78 :: s79 :: s80 :: s81 :: s82 :: s83 :: s84 :: s85 :: s86 :: s87 :: s88 :: s89 :: s90 :: s91 :: s92 :: s93 :: s94 :: s95 :: s96 :: s97 :: s98 :: s99 :: s100 :: s101 :: s102 :: s103 :: s104 :: s105 :: s106 :: s107 :: s108 :: s109 :: s110 :: s111 :: s112 :: s113 :: s114 :: s115 :: s116 :: s117 :: s118 :: s119 :: s120 :: s121 :: s122 :: s123 :: s124 :: s125 :: s126 :: s127 :: s128 :: s129 :: s130 :: s131 :: s132 :: s133 :: s134 :: s135 :: s136 :: s137 :: s138 :: s139 :: s140 :: s141 :: s142 :: s143 :: s144 :: s145 :: s146 :: s147 :: s148 :: s149 :: s150 :: s151 :: s152 :: s153 :: s154 :: s155 :: s156 :: s157 :: s158 :: s159 :: s160 :: s161 :: s162 :: s163 :: s164 :: s165 :: s166 :: s167 :: s168 :: s169 :: s170 :: s171 :: s172 :: s173 :: s174 :: s175 :: s176 :: s177 :: s178 :: s179 :: s180 :: s181 :: s182 :: s183 :: s184 :: s185 :: s186 :: s187 :: s188 :: s189 :: s190 :: s191 :: s192 :: s193 :: s194 :: s195 :: s196 :: s197 :: s198 :: s199 :: s200 :: s201 :: s202 :: s203 :: s204 :: s205 :: s206 :: s207 :: s208 :: s209 :: s210 :: s211 :: s212 :: s213 :: s214 :: s215 :: s216 :: s217 :: s218 :: s219 :: s220 :: s221 :: s222 :: s223 :: s224 :: s225 :: s226 :: s227 :: s228 :: s229 :: s230 :: s231 :: s232 :: s233 :: s234 :: s235 :: s236 :: s237 :: s238 :: s239 :: s240 :: s241 :: s242 :: s243 :: s244 :: s245 :: s246 :: s247 :: s248 :: s249 :: s250 :: s251 :: s252 :: []).toArray, []⟩ W1 := by
  subst hsw
  conv => arg 2; whnf
  have z0 : (a.d == 0) = false := by simp [h3]
  have z1 : (a.d == 1) = false := by simp [h3]
  have z2 : (a.d == 2) = false := by simp [h3]
  obtain ⟨uw, huw⟩ : ∃ n : Nat, IntKind.u8.wrap a.r.w = (n : Int) ∧ n < 256 := ⟨(IntKind.u8.wrap a.r.w).toNat, by rw [IntKind.wrap_u8]; omega⟩
  obtain ⟨vw, hvw⟩ : ∃ n : Nat, IntKind.u8.wrap a.r.h = (n : Int) ∧ n < 256 := ⟨(IntKind.u8.wrap a.r.h).toNat, by rw [IntKind.wrap_u8]; omega⟩
  obtain ⟨hu1, hu2⟩ := huw
  obtain ⟨hv1, hv2⟩ := hvw
  have tu := tmod_nat uw
  have tv := tmod_nat vw
  obtain ⟨ur, hur⟩ : ∃ n, n = uw % 12 := ⟨_, rfl⟩
  obtain ⟨vr, hvr⟩ : ∃ n, n = vw % 12 := ⟨_, rfl⟩
  rw [← hur] at tu
  rw [← hvr] at tv
  obtain ⟨u, hu⟩ : ∃ n, n = 1 + ur := ⟨_, rfl⟩
  obtain ⟨v, hv⟩ : ∃ n, n = 1 + vr := ⟨_, rfl⟩
  have g1 : IntKind.i64.wrap (uw : Int) = uw := by rw [IntKind.wrap_i64]; omega
  have g2 : IntKind.i64.wrap (vw : Int) = vw := by rw [IntKind.wrap_i64]; omega
  have g3 : IntKind.i64.wrap (ur : Int) = ur := by rw [IntKind.wrap_i64]; omega
  have g4 : IntKind.i64.wrap (vr : Int) = vr := by rw [IntKind.wrap_i64]; omega
  have g5 : IntKind.i64.wrap (1 + (ur : Int)) = (u : Nat) := by rw [IntKind.wrap_i64]; omega
  have g6 : IntKind.i64.wrap (1 + (vr : Int)) = (v : Nat) := by rw [IntKind.wrap_i64]; omega
  have HUV := hide' (show 1 ≤ u ∧ u ≤ 12 ∧ 1 ≤ v ∧ v ≤ 12 by omega)
  clear hur hvr hu hv hu2 hv2
  obtain ⟨c0, c1, c2, c3, c4, c5, c6, c7, c8, c9, c10⟩ := HP.out.act
  go_upto_region 28 with fail
  clear h3 z0 z1 z2
  go_wp2_with fail
  go_quiet (fail)
  clear c0 c1 c2 c3 c4 c5 c6 c7 c8 c9 c10
  go_upto_region 29 with fail
  obtain ⟨W28, hW28⟩ : ∃ W, W = (W1.drewN nq) := ⟨_, rfl⟩
  have HP' : Hid (PL w X1 X2 B a G O q p f f g g W28) := by rw [hW28]; exact HP.out.keep ((Stay.refl _ _).drewN _)
  rw [← hW28]
  clear hW28 HP
  have HP := HP'
  clear HP' g1 g2 g3 g4 g5 g6 tu tv hu1 hv1
  have HNW : Hid (∀ W, Calls Try.prog 9 #[.int .i64 (u : Nat), .int .i64 (v : Nat)] W (NewRefC u v (fun _ => Cl.zero) W)) := fun W => refNewC u v W HUV.out.1 (by have := HUV.out; omega) HUV.out.2.2.1 (by have := HUV.out; omega)
  have HRB : Hid (∀ W (pn : Rf), Stay (fun _ => False) W28 W → (RefAt W pn (fun _ => Cl.zero) ∧ pn.w = u ∧ pn.h = v) → Calls Try.prog 15 #[.agg #[.int .i64 q.g3.w, .int .i64 q.g3.h, q.g3.l], .agg #[.int .i64 pn.g3.w, .int .i64 pn.g3.h, pn.g3.l], .agg #[.int .i64 (⟨0, 0, (q.w : Nat), (q.h : Nat)⟩ : R).x, .int .i64 (⟨0, 0, (q.w : Nat), (q.h : Nat)⟩ : R).y, .int .i64 (⟨0, 0, (q.w : Nat), (q.h : Nat)⟩ : R).w, .int .i64 (⟨0, 0, (q.w : Nat), (q.h : Nat)⟩ : R).h], .int .i64 0, .int .i64 0] W (RefTwoC u v (cntAll (comesB q.w q.h (⟨0, 0, (q.w : Nat), (q.h : Nat)⟩ : R) 0 0) u v) (fun F => resized G.w G.h f F u v) W)) := fun W pn hs h => by
    have := refBlitC q pn f (fun _ => Cl.zero) (⟨0, 0, (q.w : Nat), (q.h : Nat)⟩ : R) 0 0 W (HP.out.r1.keep hs) h.1 i64_zero i64_zero
    rw [h.2.1, h.2.2] at this
    refine this.mono fun e w' ⟨q2, F, h1, h2, h3, h4, h5, h6, h7⟩ => ⟨q2, F, h1, h2, h3, h4, h5, h6, ?_⟩
    rw [HZ.out.1, HZ.out.2.1] at h7
    exact resized_of HP.out.g1.w2 HP.out.g1.h2 h7
  go_cut [21, 22] (fun s21 s22 wx => ∃ A3 q2 F1, s21 = .pointer (some ⟨A3, 0, none⟩) ∧ Hid (Stay (fun _ => False) W28 wx ∧ (RefAt wx q2 F1 ∧ q2.w = u ∧ q2.h = v ∧ W28.heap.size ≤ q2.b ∧ resized G.w G.h f F1 u v) ∧ BoxG wx A3 q2.g3 ∧ W28.heap.size ≤ A3 ∧ q2.b ≠ A3))
  case first =>
    refine any_begin (fun w' => Stay (fun _ => False) W28 w') (by kernel_rfl) (fun K0 hK0 => ?_)
    have HST : Hid (Stay (fun _ => False) W28 W28.drew) := (Stay.refl _ _).drew
    obtain ⟨Wd, hWd⟩ : ∃ Wd, Wd = W28.drew := ⟨_, rfl⟩
    rw [← hWd] at HST
    rw [← hWd]
    clear hWd
    refine any_take (i := 0) hK0 (some 154) (.load 28 (.tmp 11)) 28 _ (by kernel_rfl) (fun _ d _ _ _ h => by cases d <;> exact h) (by kernel_rfl) (by kernel_rfl) (fun w' hS' => by (have hb := HP.out.b1.keep hS'; obtain ⟨a0, a1, a2, a3, a4, a5⟩ := hb; simp only [opr]; go_simp; try with_reducible rfl)) HST.out (fun K1 hK1 => ?_)
    clear hK0 K0
    try simp only [Act.put, List.setIfInBounds_toArray, List.set_cons_zero, List.set_cons_succ]
    refine any_take (i := 1) hK1 (some 155) (.move (.tmp 19)) 3 _ (by kernel_rfl) (fun _ d _ _ _ h => by cases d <;> exact h) (by kernel_rfl) (by kernel_rfl) (fun w' hS' => by simp only [opr]; go_simp; try with_reducible rfl) HST.out (fun K2 hK2 => ?_)
    clear hK1 K1
    try simp only [Act.put, List.setIfInBounds_toArray, List.set_cons_zero, List.set_cons_succ]
    refine any_take (i := 2) hK2 (some 156) (.move (.tmp 20)) 3 _ (by kernel_rfl) (fun _ d _ _ _ h => by cases d <;> exact h) (by kernel_rfl) (by kernel_rfl) (fun w' hS' => by simp only [opr]; go_simp; try with_reducible rfl) HST.out (fun K3 hK3 => ?_)
    clear hK2 K2
    try simp only [Act.put, List.setIfInBounds_toArray, List.set_cons_zero, List.set_cons_succ]
    refine any_take (i := 4) hK3 (some 158) (.fieldAddr 28 (.tmp 11) 0) 0 _ (by kernel_rfl) (fun _ d _ _ _ h => by cases d <;> exact h) (by kernel_rfl) (by kernel_rfl) (fun w' hS' => by simp only [opr]; go_simp; try with_reducible rfl) HST.out (fun K4 hK4 => ?_)
    clear hK3 K3
    try simp only [Act.put, List.setIfInBounds_toArray, List.set_cons_zero, List.set_cons_succ]
    refine any_take (i := 5) hK4 (some 159) (.load 3 (.tmp 158)) 3 _ (by kernel_rfl) (fun _ d _ _ _ h => by cases d <;> exact h) (by kernel_rfl) (by kernel_rfl) (fun w' hS' => by (have hb := HP.out.b1.keep hS'; obtain ⟨a0, a1, a2, a3, a4, a5⟩ := hb; simp only [opr]; go_simp; try with_reducible rfl)) HST.out (fun K5 hK5 => ?_)
    clear hK4 K4
    try simp only [Act.put, List.setIfInBounds_toArray, List.set_cons_zero, List.set_cons_succ]
    refine any_take (i := 6) hK5 (some 160) (.fieldAddr 28 (.tmp 11) 1) 0 _ (by kernel_rfl) (fun _ d _ _ _ h => by cases d <;> exact h) (by kernel_rfl) (by kernel_rfl) (fun w' hS' => by simp only [opr]; go_simp; try with_reducible rfl) HST.out (fun K6 hK6 => ?_)
    clear hK5 K5
    try simp only [Act.put, List.setIfInBounds_toArray, List.set_cons_zero, List.set_cons_succ]
    refine any_take (i := 7) hK6 (some 161) (.load 3 (.tmp 160)) 3 _ (by kernel_rfl) (fun _ d _ _ _ h => by cases d <;> exact h) (by kernel_rfl) (by kernel_rfl) (fun w' hS' => by (have hb := HP.out.b1.keep hS'; obtain ⟨a0, a1, a2, a3, a4, a5⟩ := hb; simp only [opr]; go_simp; try with_reducible rfl)) HST.out (fun K7 hK7 => ?_)
    clear hK6 K6
    try simp only [Act.put, List.setIfInBounds_toArray, List.set_cons_zero, List.set_cons_succ]
    refine any_take (i := 8) hK7 (some 162) (.build 31 #[(2, .tmp 159), (3, .tmp 161)]) 31 _ (by kernel_rfl) (fun _ d _ _ _ h => by cases d <;> exact h) (by kernel_rfl) (by kernel_rfl) (fun w' hS' => by simp only [opr]; go_simp; try with_reducible rfl) HST.out (fun K8 hK8 => ?_)
    clear hK7 K7
    try simp only [Act.put, List.setIfInBounds_toArray, List.set_cons_zero, List.set_cons_succ]
    refine any_pick (rs := [3, 13]) hK8 (by kernel_rfl) (fun K9 hK9 => ?_)
    clear hK8 K8
    intro i hi
    simp only [List.mem_cons, List.not_mem_nil, or_false] at hi
    rcases hi with rfl | rfl
    · refine op_plain (some 157) (.call { callee := Callee.value (.func 9), args := #[.tmp 155, .tmp 156], argTypes := #[3, 3] }) 28 (by kernel_rfl) (by kernel_rfl) ?_
      go_wp2_with fail
      refine (HNW.out _).mono ?_
      rintro e Wf1 ⟨pn2, rfl, hs, hpn, hpw, hph, hpb⟩
      have HPN := hide' (show RefAt Wf1 pn2 (fun _ => Cl.zero) ∧ pn2.w = u ∧ pn2.h = v from ⟨hpn, hpw, hph⟩)
      have HST' := hide' (HST.out.trans hs)
      clear hs hpn hpw hph hpb
      clear HST
      have HST := HST'
      clear HST'
      go_wp2
      refine hK9 3 (by simp) _ _ HST.out (any_more fun K10 hK10 => ?_)
      clear hK9 K9
      refine any_pick (rs := [9, 13]) hK10 (by kernel_rfl) (fun K11 hK11 => ?_)
      clear hK10 K10
      intro i hi
      simp only [List.mem_cons, List.not_mem_nil, or_false] at hi
      rcases hi with rfl | rfl
      · refine op_plain (some 163) (.call { callee := Callee.value (.func 15), args := #[.tmp 154, .tmp 157, .tmp 162, .const (Value.int IntKind.i64 0), .const (Value.int IntKind.i64 0)], argTypes := #[28, 28, 31, 3, 3] }) 41 (by kernel_rfl) (by kernel_rfl) ?_
        go_wp2_with fail
        refine (HRB.out _ pn2 HST.out HPN.out).mono ?_
        rintro e Wf3 ⟨q24, F1, rfl, hs, hq, hqw, hqh, hqb, hf1⟩
        have HQ2 := hide' (show RefAt Wf3 q24 F1 ∧ q24.w = u ∧ q24.h = v ∧ W28.heap.size ≤ q24.b ∧ resized G.w G.h f F1 u v from ⟨hq, hqw, hqh, Nat.le_trans HST.out.size hqb, hf1⟩)
        have HST' := hide' (HST.out.trans hs)
        clear hs hq hqw hqh hqb hf1 HPN
        clear HST
        have HST := HST'
        clear HST'
        go_wp2
        refine hK11 9 (by simp) _ _ HST.out (any_more fun K12 hK12 => ?_)
        clear hK11 K11
        refine any_take (i := 10) hK12 (some 153) (.move (.tmp 163)) 41 _ (by kernel_rfl) (fun _ d _ _ _ h => by cases d <;> exact h) (by kernel_rfl) (by kernel_rfl) (fun w' hS' => by simp only [opr]; go_simp; try with_reducible rfl) HST.out (fun K13 hK13 => ?_)
        clear hK12 K12
        try simp only [Act.put, List.setIfInBounds_toArray, List.set_cons_zero, List.set_cons_succ]
        refine any_take (i := 11) hK13 (some 164) (.extract (.tmp 153) 0) 28 _ (by kernel_rfl) (fun _ d _ _ _ h => by cases d <;> exact h) (by kernel_rfl) (by kernel_rfl) (fun w' hS' => by simp only [opr]; go_simp; try with_reducible rfl) HST.out (fun K14 hK14 => ?_)
        clear hK13 K13
        try simp only [Act.put, List.setIfInBounds_toArray, List.set_cons_zero, List.set_cons_succ]
        refine any_take (i := 12) hK14 (some 165) (.extract (.tmp 153) 1) 3 _ (by kernel_rfl) (fun _ d _ _ _ h => by cases d <;> exact h) (by kernel_rfl) (by kernel_rfl) (fun w' hS' => by simp only [opr]; go_simp; try with_reducible rfl) HST.out (fun K15 hK15 => ?_)
        clear hK14 K14
        try simp only [Act.put, List.setIfInBounds_toArray, List.set_cons_zero, List.set_cons_succ]
        refine any_pick (rs := [13]) hK15 (by kernel_rfl) (fun K16 hK16 => ?_)
        clear hK15 K15
        intro i hi
        simp only [List.mem_cons, List.not_mem_nil, or_false] at hi
        rcases hi with rfl
        refine op_plain (some 21) (.alloc 28) 0 (by kernel_rfl) (by kernel_rfl) ?_
        go_wp2
        have st : Stay (fun _ => False) Wf3 (Wf3.alloc (.cells #[.int .i64 0, .int .i64 0, .slice none 0 0] 28)) := (Stay.refl _ _).alloc _
        have HAb := hide' (BoxG.new (w := Wf3) ⟨0, 0, .slice none 0 0⟩ rfl)
        have HAG : Hid (W28.heap.size ≤ Wf3.heap.size) := HST.out.size
        have HST' := hide' (HST.out.trans st)
        have HQA : Hid (q24.b ≠ Wf3.heap.size) := fun e => by have := HQ2.out.1.lt; omega
        have HQ2' := hide' (show _ ∧ _ ∧ _ ∧ _ ∧ _ from ⟨HQ2.out.1.keep st, HQ2.out.2⟩)
        clear st
        clear HST
        have HST := HST'
        clear HST'
        clear HQ2
        have HQ2 := HQ2'
        clear HQ2'
        obtain ⟨Af6, hA'⟩ : ∃ B, B = Wf3.heap.size := ⟨_, rfl⟩
        rw [← hA'] at HAb HAG HQA
        rw [← hA']
        clear hA'
        obtain ⟨Wf5, hW⟩ : ∃ Wq, Wq = (Wf3.alloc (.cells #[.int .i64 0, .int .i64 0, .slice none 0 0] 28)) := ⟨_, rfl⟩
        rw [← hW] at HAb HST HQ2
        rw [← hW]
        clear hW
        refine hK16 13 (by simp) _ _ HST.out (any_more fun K17 hK17 => ?_)
        clear hK16 K16
        refine any_pick (rs := [14]) hK17 (by kernel_rfl) (fun K18 hK18 => ?_)
        clear hK17 K17
        intro i hi
        simp only [List.mem_cons, List.not_mem_nil, or_false] at hi
        rcases hi with rfl
        refine op_plain none (.store 28 (.tmp 21) (.tmp 164)) 0 (by kernel_rfl) (by kernel_rfl) ?_
        obtain ⟨z0, z1, z2, e0, e1, e2⟩ := HAb.out
        go_wp2
        generalize hW2 : World.setCell (World.setCell (World.setCell _ _ _) _ _) _ _ = Wf7
        have HF : Hid (BoxG Wf7 Af6 q24.g3) := by rw [← hW2]; exact HAb.out.put q24.g3
        have hst : Stay (fun k => k = Af6) Wf5 Wf7 := by rw [← hW2]; exact putG_stay Wf5 Af6 q24
        have HQ3 := hide' (show _ ∧ _ ∧ _ ∧ _ ∧ _ from ⟨HQ2.out.1.stay hst HQA.out, HQ2.out.2⟩)
        have HST' := hide' (HST.out.trans' hst HAG.out)
        clear z0 z1 z2 e0 e1 e2 hW2 hst HAb HQ2
        clear HST
        have HST := HST'
        clear HST'
        refine hK18 14 (by simp) _ _ HST.out (any_more fun K19 hK19 => ?_)
        clear hK18 K18
        refine any_take (i := 15) hK19 (some 22) (.assign (.tmp 165)) 3 _ (by kernel_rfl) (fun _ d _ _ _ h => by cases d <;> exact h) (by kernel_rfl) (by kernel_rfl) (fun w' hS' => by simp only [opr]; go_simp; try with_reducible rfl) HST.out (fun K20 hK20 => ?_)
        clear hK19 K19
        try simp only [Act.put, List.setIfInBounds_toArray, List.set_cons_zero, List.set_cons_succ]
        refine any_done hK20 (by kernel_rfl) ?_
        clear hK20 K20
        go_wp2_with fail
        go_meet
        exact ⟨Af6, q24, _, rfl, ⟨HST.out, HQ3.out, HF.out, HAG.out, HQA.out⟩⟩
      · refine op_plain (some 21) (.alloc 28) 0 (by kernel_rfl) (by kernel_rfl) ?_
        go_wp2
        have st : Stay (fun _ => False) Wf1 (Wf1.alloc (.cells #[.int .i64 0, .int .i64 0, .slice none 0 0] 28)) := (Stay.refl _ _).alloc _
        have HAb := hide' (BoxG.new (w := Wf1) ⟨0, 0, .slice none 0 0⟩ rfl)
        have HAG : Hid (W28.heap.size ≤ Wf1.heap.size) := HST.out.size
        have HST' := hide' (HST.out.trans st)
        have HPN' := hide' (show _ ∧ _ ∧ _ from ⟨HPN.out.1.keep st, HPN.out.2⟩)
        clear st
        clear HST
        have HST := HST'
        clear HST'
        clear HPN
        have HPN := HPN'
        clear HPN'
        obtain ⟨Af9, hA'⟩ : ∃ B, B = Wf1.heap.size := ⟨_, rfl⟩
        rw [← hA'] at HAb HAG
        rw [← hA']
        clear hA'
        obtain ⟨Wf8, hW⟩ : ∃ Wq, Wq = (Wf1.alloc (.cells #[.int .i64 0, .int .i64 0, .slice none 0 0] 28)) := ⟨_, rfl⟩
        rw [← hW] at HAb HST HPN
        rw [← hW]
        clear hW
        refine hK11 13 (by simp) _ _ HST.out (any_more fun K12 hK12 => ?_)
        clear hK11 K11
        refine any_pick (rs := [9]) hK12 (by kernel_rfl) (fun K13 hK13 => ?_)
        clear hK12 K12
        intro i hi
        simp only [List.mem_cons, List.not_mem_nil, or_false] at hi
        rcases hi with rfl
        refine op_plain (some 163) (.call { callee := Callee.value (.func 15), args := #[.tmp 154, .tmp 157, .tmp 162, .const (Value.int IntKind.i64 0), .const (Value.int IntKind.i64 0)], argTypes := #[28, 28, 31, 3, 3] }) 41 (by kernel_rfl) (by kernel_rfl) ?_
        go_wp2_with fail
        refine (HRB.out _ pn2 HST.out HPN.out).mono ?_
        rintro e Wf10 ⟨q211, F1, rfl, hs, hq, hqw, hqh, hqb, hf1⟩
        have HQ2 := hide' (show RefAt Wf10 q211 F1 ∧ q211.w = u ∧ q211.h = v ∧ W28.heap.size ≤ q211.b ∧ resized G.w G.h f F1 u v from ⟨hq, hqw, hqh, Nat.le_trans HST.out.size hqb, hf1⟩)
        have HQA : Hid (q211.b ≠ Af9) := fun e => by have := HAb.out.lt; omega
        have HST' := hide' (HST.out.trans hs)
        have HAb' := hide' (HAb.out.keep hs)
        clear hs hq hqw hqh hqb hf1 HPN
        clear HST
        have HST := HST'
        clear HST'
        clear HAb
        have HAb := HAb'
        clear HAb'
        go_wp2
        refine hK13 9 (by simp) _ _ HST.out (any_more fun K14 hK14 => ?_)
        clear hK13 K13
        refine any_take (i := 10) hK14 (some 153) (.move (.tmp 163)) 41 _ (by kernel_rfl) (fun _ d _ _ _ h => by cases d <;> exact h) (by kernel_rfl) (by kernel_rfl) (fun w' hS' => by simp only [opr]; go_simp; try with_reducible rfl) HST.out (fun K15 hK15 => ?_)
        clear hK14 K14
        try simp only [Act.put, List.setIfInBounds_toArray, List.set_cons_zero, List.set_cons_succ]
        refine any_take (i := 11) hK15 (some 164) (.extract (.tmp 153) 0) 28 _ (by kernel_rfl) (fun _ d _ _ _ h => by cases d <;> exact h) (by kernel_rfl) (by kernel_rfl) (fun w' hS' => by simp only [opr]; go_simp; try with_reducible rfl) HST.out (fun K16 hK16 => ?_)
        clear hK15 K15
        try simp only [Act.put, List.setIfInBounds_toArray, List.set_cons_zero, List.set_cons_succ]
        refine any_take (i := 12) hK16 (some 165) (.extract (.tmp 153) 1) 3 _ (by kernel_rfl) (fun _ d _ _ _ h => by cases d <;> exact h) (by kernel_rfl) (by kernel_rfl) (fun w' hS' => by simp only [opr]; go_simp; try with_reducible rfl) HST.out (fun K17 hK17 => ?_)
        clear hK16 K16
        try simp only [Act.put, List.setIfInBounds_toArray, List.set_cons_zero, List.set_cons_succ]
        refine any_pick (rs := [14]) hK17 (by kernel_rfl) (fun K18 hK18 => ?_)
        clear hK17 K17
        intro i hi
        simp only [List.mem_cons, List.not_mem_nil, or_false] at hi
        rcases hi with rfl
        refine op_plain none (.store 28 (.tmp 21) (.tmp 164)) 0 (by kernel_rfl) (by kernel_rfl) ?_
        obtain ⟨z0, z1, z2, e0, e1, e2⟩ := HAb.out
        go_wp2
        generalize hW2 : World.setCell (World.setCell (World.setCell _ _ _) _ _) _ _ = Wf12
        have HF : Hid (BoxG Wf12 Af9 q211.g3) := by rw [← hW2]; exact HAb.out.put q211.g3
        have hst : Stay (fun k => k = Af9) Wf10 Wf12 := by rw [← hW2]; exact putG_stay Wf10 Af9 q211
        have HQ3 := hide' (show _ ∧ _ ∧ _ ∧ _ ∧ _ from ⟨HQ2.out.1.stay hst HQA.out, HQ2.out.2⟩)
        have HST' := hide' (HST.out.trans' hst HAG.out)
        clear z0 z1 z2 e0 e1 e2 hW2 hst HAb HQ2
        clear HST
        have HST := HST'
        clear HST'
        refine hK18 14 (by simp) _ _ HST.out (any_more fun K19 hK19 => ?_)
        clear hK18 K18
        refine any_take (i := 15) hK19 (some 22) (.assign (.tmp 165)) 3 _ (by kernel_rfl) (fun _ d _ _ _ h => by cases d <;> exact h) (by kernel_rfl) (by kernel_rfl) (fun w' hS' => by simp only [opr]; go_simp; try with_reducible rfl) HST.out (fun K20 hK20 => ?_)
        clear hK19 K19
        try simp only [Act.put, List.setIfInBounds_toArray, List.set_cons_zero, List.set_cons_succ]
        refine any_done hK20 (by kernel_rfl) ?_
        clear hK20 K20
        go_wp2_with fail
        go_meet
        exact ⟨Af9, q211, _, rfl, ⟨HST.out, HQ3.out, HF.out, HAG.out, HQA.out⟩⟩
    · refine op_plain (some 21) (.alloc 28) 0 (by kernel_rfl) (by kernel_rfl) ?_
      go_wp2
      have st : Stay (fun _ => False) Wd (Wd.alloc (.cells #[.int .i64 0, .int .i64 0, .slice none 0 0] 28)) := (Stay.refl _ _).alloc _
      have HAb := hide' (BoxG.new (w := Wd) ⟨0, 0, .slice none 0 0⟩ rfl)
      have HAG : Hid (W28.heap.size ≤ Wd.heap.size) := HST.out.size
      have HST' := hide' (HST.out.trans st)
      clear st
      clear HST
      have HST := HST'
      clear HST'
      obtain ⟨Af14, hA'⟩ : ∃ B, B = Wd.heap.size := ⟨_, rfl⟩
      rw [← hA'] at HAb HAG
      rw [← hA']
      clear hA'
      obtain ⟨Wf13, hW⟩ : ∃ Wq, Wq = (Wd.alloc (.cells #[.int .i64 0, .int .i64 0, .slice none 0 0] 28)) := ⟨_, rfl⟩
      rw [← hW] at HAb HST
      rw [← hW]
      clear hW
      refine hK9 13 (by simp) _ _ HST.out (any_more fun K10 hK10 => ?_)
      clear hK9 K9
      refine any_pick (rs := [3]) hK10 (by kernel_rfl) (fun K11 hK11 => ?_)
      clear hK10 K10
      intro i hi
      simp only [List.mem_cons, List.not_mem_nil, or_false] at hi
      rcases hi with rfl
      refine op_plain (some 157) (.call { callee := Callee.value (.func 9), args := #[.tmp 155, .tmp 156], argTypes := #[3, 3] }) 28 (by kernel_rfl) (by kernel_rfl) ?_
      go_wp2_with fail
      refine (HNW.out _).mono ?_
      rintro e Wf15 ⟨pn16, rfl, hs, hpn, hpw, hph, hpb⟩
      have HPN := hide' (show RefAt Wf15 pn16 (fun _ => Cl.zero) ∧ pn16.w = u ∧ pn16.h = v from ⟨hpn, hpw, hph⟩)
      have HST' := hide' (HST.out.trans hs)
      have HAb' := hide' (HAb.out.keep hs)
      clear hs hpn hpw hph hpb
      clear HST
      have HST := HST'
      clear HST'
      clear HAb
      have HAb := HAb'
      clear HAb'
      go_wp2
      refine hK11 3 (by simp) _ _ HST.out (any_more fun K12 hK12 => ?_)
      clear hK11 K11
      refine any_pick (rs := [9]) hK12 (by kernel_rfl) (fun K13 hK13 => ?_)
      clear hK12 K12
      intro i hi
      simp only [List.mem_cons, List.not_mem_nil, or_false] at hi
      rcases hi with rfl
      refine op_plain (some 163) (.call { callee := Callee.value (.func 15), args := #[.tmp 154, .tmp 157, .tmp 162, .const (Value.int IntKind.i64 0), .const (Value.int IntKind.i64 0)], argTypes := #[28, 28, 31, 3, 3] }) 41 (by kernel_rfl) (by kernel_rfl) ?_
      go_wp2_with fail
      refine (HRB.out _ pn16 HST.out HPN.out).mono ?_
      rintro e Wf17 ⟨q218, F1, rfl, hs, hq, hqw, hqh, hqb, hf1⟩
      have HQ2 := hide' (show RefAt Wf17 q218 F1 ∧ q218.w = u ∧ q218.h = v ∧ W28.heap.size ≤ q218.b ∧ resized G.w G.h f F1 u v from ⟨hq, hqw, hqh, Nat.le_trans HST.out.size hqb, hf1⟩)
      have HQA : Hid (q218.b ≠ Af14) := fun e => by have := HAb.out.lt; omega
      have HST' := hide' (HST.out.trans hs)
      have HAb' := hide' (HAb.out.keep hs)
      clear hs hq hqw hqh hqb hf1 HPN
      clear HST
      have HST := HST'
      clear HST'
      clear HAb
      have HAb := HAb'
      clear HAb'
      go_wp2
      refine hK13 9 (by simp) _ _ HST.out (any_more fun K14 hK14 => ?_)
      clear hK13 K13
      refine any_take (i := 10) hK14 (some 153) (.move (.tmp 163)) 41 _ (by kernel_rfl) (fun _ d _ _ _ h => by cases d <;> exact h) (by kernel_rfl) (by kernel_rfl) (fun w' hS' => by simp only [opr]; go_simp; try with_reducible rfl) HST.out (fun K15 hK15 => ?_)
      clear hK14 K14
      try simp only [Act.put, List.setIfInBounds_toArray, List.set_cons_zero, List.set_cons_succ]
      refine any_take (i := 11) hK15 (some 164) (.extract (.tmp 153) 0) 28 _ (by kernel_rfl) (fun _ d _ _ _ h => by cases d <;> exact h) (by kernel_rfl) (by kernel_rfl) (fun w' hS' => by simp only [opr]; go_simp; try with_reducible rfl) HST.out (fun K16 hK16 => ?_)
      clear hK15 K15
      try simp only [Act.put, List.setIfInBounds_toArray, List.set_cons_zero, List.set_cons_succ]
      refine any_take (i := 12) hK16 (some 165) (.extract (.tmp 153) 1) 3 _ (by kernel_rfl) (fun _ d _ _ _ h => by cases d <;> exact h) (by kernel_rfl) (by kernel_rfl) (fun w' hS' => by simp only [opr]; go_simp; try with_reducible rfl) HST.out (fun K17 hK17 => ?_)
      clear hK16 K16
      try simp only [Act.put, List.setIfInBounds_toArray, List.set_cons_zero, List.set_cons_succ]
      refine any_pick (rs := [14]) hK17 (by kernel_rfl) (fun K18 hK18 => ?_)
      clear hK17 K17
      intro i hi
      simp only [List.mem_cons, List.not_mem_nil, or_false] at hi
      rcases hi with rfl
      refine op_plain none (.store 28 (.tmp 21) (.tmp 164)) 0 (by kernel_rfl) (by kernel_rfl) ?_
      obtain ⟨z0, z1, z2, e0, e1, e2⟩ := HAb.out
      go_wp2
      generalize hW2 : World.setCell (World.setCell (World.setCell _ _ _) _ _) _ _ = Wf19
      have HF : Hid (BoxG Wf19 Af14 q218.g3) := by rw [← hW2]; exact HAb.out.put q218.g3
      have hst : Stay (fun k => k = Af14) Wf17 Wf19 := by rw [← hW2]; exact putG_stay Wf17 Af14 q218
      have HQ3 := hide' (show _ ∧ _ ∧ _ ∧ _ ∧ _ from ⟨HQ2.out.1.stay hst HQA.out, HQ2.out.2⟩)
      have HST' := hide' (HST.out.trans' hst HAG.out)
      clear z0 z1 z2 e0 e1 e2 hW2 hst HAb HQ2
      clear HST
      have HST := HST'
      clear HST'
      refine hK18 14 (by simp) _ _ HST.out (any_more fun K19 hK19 => ?_)
      clear hK18 K18
      refine any_take (i := 15) hK19 (some 22) (.assign (.tmp 165)) 3 _ (by kernel_rfl) (fun _ d _ _ _ h => by cases d <;> exact h) (by kernel_rfl) (by kernel_rfl) (fun w' hS' => by simp only [opr]; go_simp; try with_reducible rfl) HST.out (fun K20 hK20 => ?_)
      clear hK19 K19
      try simp only [Act.put, List.setIfInBounds_toArray, List.set_cons_zero, List.set_cons_succ]
      refine any_done hK20 (by kernel_rfl) ?_
      clear hK20 K20
      go_wp2_with fail
      go_meet
      exact ⟨Af14, q218, _, rfl, ⟨HST.out, HQ3.out, HF.out, HAG.out, HQA.out⟩⟩
  case rest =>
  obtain ⟨A3, q2, F1, rfl, HC3⟩ := hcut
  have HP6 := hide' (HP.out.keep HC3.out.1)
  have HQ2 := hide' HC3.out.2.1.1
  have HFR := hide' (HP.out.fresh HC3.out.2.1.2.2.2.1)
  have HBN' := hide' HC3.out.2.2.1
  have HRZ := hide' (show q2.w = u ∧ q2.h = v ∧ resized G.w G.h f F1 u v from ⟨HC3.out.2.1.2.1, HC3.out.2.1.2.2.1, HC3.out.2.1.2.2.2.2⟩)
  clear HC3 HP HNW HRB
  obtain ⟨a0, a1, a2, a3, a4, a5⟩ := HP6.out.b1
  obtain ⟨b0, b1, b2, b3, b4, b5⟩ := HBN'.out
  simp only [Rf.g3] at b0 b1 b2
  go_upto_region 31 with fail
  generalize hW : World.setCell (World.setCell (World.setCell _ _ _) _ _) _ _ = W7
  have HP7 : Hid (PL w X1 X2 B a G O q2 p f F1 g g W7) := by rw [← hW]; exact HP6.out.put1 HQ2.out HFR.out
  clear hW a0 a1 a2 a3 a4 a5 b0 b1 b2 b3 b4 b5 HP6 HBN'
  have HRS := hide' (resize17 G f u v W7 HP7.out.g1 HUV.out.1 (by have := HUV.out; omega) HUV.out.2.2.1 (by have := HUV.out; omega))
  go_wp2_with fail
  refine HRS.out.mono ?_
  rintro e w8 ⟨f1, ⟨G2, rfl, hs, hG, hgw, hgh, hab⟩, hf1⟩
  have HP8 := hide' (HP7.out.new1 hs hG hab)
  have HZ2 : Hid (q2.w = G2.w ∧ q2.h = G2.h ∧ p.w = O.w ∧ p.h = O.h) := ⟨HRZ.out.1.trans hgw.symm, HRZ.out.2.1.trans hgh.symm, HZ.out.2.2⟩
  have HE2 : Hid (∀ X Y : Nat, X < G2.w → Y < G2.h → F1 (Y * G2.w + X) = f1 (Y * G2.w + X)) := fun X Y hX hY => by
    rw [hgw] at hX ⊢
    rw [hgh] at hY
    exact (HRZ.out.2.2 X Y hX hY).trans (hf1 X Y hX hY).symm
  clear hs hG hgw hgh hab hf1 HP7 HRS
  go_wp2_with fail
  go_meet
  exact ⟨G2, q2, p, f1, g, rfl, HP8.out.meet1 ⟨HZ2.out.1, HZ2.out.2.1⟩ HE2.out, HZ2.out⟩

end Go.Proofs.Ytmpmdlbhiogelaa
