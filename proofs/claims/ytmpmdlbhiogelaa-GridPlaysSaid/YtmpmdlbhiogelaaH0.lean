/-
  GridPlays, what is done 0: walked. No conditions.
-/
import Derived.Test.YtmpmdlbhiogelaaED
namespace Go.Proofs.Ytmpmdlbhiogelaa
open Go.RowKit

set_option maxRecDepth 100000 in
set_option maxHeartbeats 16000000 in
theorem plays_do0 {sw : Code} {w wr W1 : World} {X1 X2 B : Nat} {a : Ac} {G O : Gr} {q p : Rf} {f g : Nat → Cl} {J K' K1 K2 K3 : Act → World → Prop} {s0 s1 s2 s3 s4 s5 s6 s7 s8 s13 s15 s16 s17 s18 s19 s20 s21 s22 s23 s24 s25 s26 s27 s28 s29 s30 s31 s32 s33 s34 s35 s36 s37 s38 s39 s40 s41 s42 s43 s44 s45 s46 s47 s48 s49 s50 s51 s52 s53 s54 s55 s56 s57 s58 s59 s60 s61 s62 s63 s64 s65 s67 s68 s69 s70 s71 s72 s73 s74 s75 s76 s77 s78 s79 s80 s81 s82 s83 s84 s85 s86 s87 s88 s89 s90 s91 s92 s93 s94 s95 s96 s97 s98 s99 s100 s101 s102 s103 s104 s105 s106 s107 s108 s109 s110 s111 s112 s113 s114 s115 s116 s117 s118 s119 s120 s121 s122 s123 s124 s125 s126 s127 s128 s129 s130 s131 s132 s133 s134 s135 s136 s137 s138 s139 s140 s141 s142 s143 s144 s145 s146 s147 s148 s149 s150 s151 s152 s153 s154 s155 s156 s157 s158 s159 s160 s161 s162 s163 s164 s165 s166 s167 s168 s169 s170 s171 s172 s173 s174 s175 s176 s177 s178 s179 s180 s181 s182 s183 s184 s185 s186 s187 s188 s189 s190 s191 s192 s193 s194 s195 s196 s197 s198 s199 s200 s201 s202 s203 s204 s205 s206 s207 s208 s209 s210 s211 s212 s213 s214 s215 s216 s217 s218 s219 s220 s221 s222 s223 s224 s225 s226 s227 s228 s229 s230 s231 s232 s233 s234 s235 s236 s237 s238 s239 s240 s241 s242 s243 s244 s245 s246 s247 s248 s249 s250 s251 s252 : Value}
    (hsw : sw = switch3) (h0 : a.d = 0) (HP : Hid (PL w X1 X2 B a G O q p f f g g W1)) (HZ : Hid (q.w = G.w ∧ q.h = G.h ∧ p.w = O.w ∧ p.h = O.h)) (HQ0 : Hid (RefAt wr q f)) (HWF : Hid (I64 a.x ∧ I64 a.y))
    (hK : ∀ (a' : Act) (w' : World), Met J a' w' → K' a' w') (hR : ∀ (a' : Act) (w' : World), (∃ u6 u9 u15 u16 u17 u18 u19 u20 u21 u22 u23 u24 u55 u56 u57 u58 u59 u60 u61 u62 u63 u64 u65 u66 u67 u68 u69 u70 u71 u72 u73 u74 u75 u76 u77 u78 u79 u80 u81 u82 u83 u84 u85 u86 u87 u88 u89 u90 u91 u92 u93 u94 u95 u96 u97 u98 u99 u100 u101 u102 u103 u104 u105 u106 u107 u108 u109 u110 u111 u112 u113 u114 u115 u116 u117 u118 u119 u120 u121 u122 u123 u124 u125 u126 u127 u128 u129 u130 u131 u132 u133 u134 u135 u136 u137 u138 u139 u140 u141 u142 u143 u144 u145 u146 u147 u148 u149 u150 u151 u152 u153 u154 u155 u156 u157 u158 u159 u160 u161 u162 u163 u164 u165 u166 u167 u168 u169 u170 u171 u172 u173 u174 u175 u176 u177 u178 u179 u180 u181 u182 u183 u184 u185 u186 u187 u188 u189 u190 u191 u192 u193 u194 u195 u196 u197 u198 u199 u200 u201 u202 u203 u204 u205 u206 u207 u208 u209 u210 u211 u212 u213 u214 u215 u216 u217 u218 u219 u220 u221 u222 u223 u224 u225 u226 u227 u228 u229 u230 u231 u232 u233 u234 u235 u236 u237 u238 u239 u240 u241 u242 u243 u244 u245 u246 u247 u248 u249 u250 u251 : Value, (∃ G q p f g, u9 = .pointer (some ⟨G.g, 0, none⟩) ∧ Hid (PL w X1 X2 B a G O q p f f g g w' ∧ (q.w = G.w ∧ q.h = G.h ∧ p.w = O.w ∧ p.h = O.h))) ∧ a' = ⟨(s0 :: s1 :: s2 :: s3 :: s4 :: s5 :: u6 :: s7 :: s8 :: u9 :: (.pointer (some ⟨O.g, 0, none⟩)) :: (.pointer (some ⟨X1, 0, none⟩)) :: (.pointer (some ⟨X2, 0, none⟩)) :: s13 :: (.pointer (some ⟨B, 0, none⟩)) :: u15 :: u16 :: u17 :: u18 :: u19 :: u20 :: u21 :: u22 :: u23 :: u24 :: s25 :: s26 :: s27 :: s28 :: s29 :: s30 :: s31 :: s32 :: s33 :: s34 :: s35 :: s36 :: s37 :: s38 :: s39 :: s40 :: s41 :: s42 :: s43 :: s44 :: s45 :: s46 :: s47 :: s48 :: s49 :: s50 :: s51 :: s52 :: s53 :: s54 :: u55 :: u56 :: u57 :: u58 :: u59 :: u60 :: u61 :: u62 :: u63 :: u64 :: u65 :: u66 :: u67 :: u68 :: u69 :: u70 :: u71 :: u72 :: u73 :: u74 :: u75 :: u76 :: u77 :: u78 :: u79 :: u80 :: u81 :: u82 :: u83 :: u84 :: u85 :: u86 :: u87 :: u88 :: u89 :: u90 :: u91 :: u92 :: u93 :: u94 :: u95 :: u96 :: u97 :: u98 :: u99 :: u100 :: u101 :: u102 :: u103 :: u104 :: u105 :: u106 :: u107 :: u108 :: u109 :: u110 :: u111 :: u112 :: u113 :: u114 :: u115 :: u116 :: u117 :: u118 :: u119 :: u120 :: u121 :: u122 :: u123 :: u124 :: u125 :: u126 :: u127 :: u128 :: u129 :: u130 :: u131 :: u132 :: u133 :: u134 :: u135 :: u136 :: u137 :: u138 :: u139 :: u140 :: u141 :: u142 :: u143 :: u144 :: u145 :: u146 :: u147 :: u148 :: u149 :: u150 :: u151 :: u152 :: u153 :: u154 :: u155 :: u156 :: u157 :: u158 :: u159 :: u160 :: u161 :: u162 :: u163 :: u164 :: u165 :: u166 :: u167 :: u168 :: u169 :: u170 :: u171 :: u172 :: u173 :: u174 :: u175 :: u176 :: u177 :: u178 :: u179 :: u180 :: u181 :: u182 :: u183 :: u184 :: u185 :: u186 :: u187 :: u188 :: u189 :: u190 :: u191 :: u192 :: u193 :: u194 :: u195 :: u196 :: u197 :: u198 :: u199 :: u200 :: u201 :: u202 :: u203 :: u204 :: u205 :: u206 :: u207 :: u208 :: u209 :: u210 :: u211 :: u212 :: u213 :: u214 :: u215 :: u216 :: u217 :: u218 :: u219 :: u220 :: u221 :: u222 :: u223 :: u224 :: u225 :: u226 :: u227 :: u228 :: u229 :: u230 :: u231 :: u232 :: u233 :: u234 :: u235 :: u236 :: u237 :: u238 :: u239 :: u240 :: u241 :: u242 :: u243 :: u244 :: u245 :: u246 :: u247 :: u248 :: u249 :: u250 :: u251 :: s252 :: []).toArray, []⟩) → J a' w') :
    Code.wp Try.prog sw (Exit.then K' (Exit.inBlock 1 (Exit.then K1 (Exit.then K2 (Exit.inBlock 0 (Exit.then K3 (bodyPost Try.prog Try.f3 (LawTrue w)))))))) ⟨(s0 :: s1 :: s2 :: s3 :: s4 :: s5 :: s6 :: s7 :: s8 :: (.pointer (some ⟨G.g, 0, none⟩)) :: (.pointer (some ⟨O.g, 0, none⟩)) :: (.pointer (some ⟨X1, 0, none⟩)) :: (.pointer (some ⟨X2, 0, none⟩)) :: s13 :: (.pointer (some ⟨B, 0, none⟩)) :: s15 :: s16 :: s17 :: s18 :: s19 :: s20 :: s21 :: s22 :: s23 :: s24 :: s25 :: s26 :: s27 :: s28 :: s29 :: s30 :: s31 :: s32 :: s33 :: s34 :: s35 :: s36 :: s37 :: s38 :: s39 :: s40 :: s41 :: s42 :: s43 :: s44 :: s45 :: s46 :: s47 :: s48 :: s49 :: s50 :: s51 :: s52 :: s53 :: s54 :: s55 :: s56 :: s57 :: s58 :: s59 :: s60 :: s61 :: s62 :: s63 :: s64 :: s65 :: (.int .i64 a.d) :: s67 :: s68 :: s69 :: s70 :: s71 :: s72 :: s73 :: s74 :: s75 :: s76 :: s77 :: s78 :: s79 :: s80 :: s81 :: s82 :: s83 :: s84 :: s85 :: s86 :: s87 :: s88 :: s89 :: s90 :: s91 :: s92 :: s93 :: s94 :: s95 :: s96 :: s97 :: s98 :: s99 :: s100 :: s101 :: s102 :: s103 :: s104 :: s105 :: s106 :: s107 :: s108 :: s109 :: s110 :: s111 :: s112 :: s113 :: s114 :: s115 :: s116 :: s117 :: s118 :: s119 :: s120 :: s121 :: s122 :: s123 :: s124 :: s125 :: s126 :: s127 :: s128 :: s129 :: s130 :: s131 :: s132 :: s133 :: s134 :: s135 :: s136 :: s137 :: s138 :: s139 :: s140 :: s141 :: s142 :: s143 :: s144 :: s145 :: s146 :: s147 :: s148 :: s149 :: s150 :: s151 :: s152 :: s153 :: s154 :: s155 :: s156 :: s157 :: s158 :: s159 :: s160 :: s161 :: s162 :: s163 :: s164 :: s165 :: s166 :: s167 :: s168 :: s169 :: s170 :: s171 :: s172 :: s173 :: s174 :: s175 :: s176 :: s177 :: s178 :: s179 :: s180 :: s181 :: s182 :: s183 :: s184 :: s185 :: s186 :: s187 :: s188 :: s189 :: s190 :: s191 :: s192 :: s193 :: s194 :: s195 :: s196 :: s197 :: s198 :: s199 :: s200 :: s201 :: s202 :: s203 :: s204 :: s205 :: s206 :: s207 :: s208 :: s209 :: s210 :: s211 :: s212 :: s213 :: s214 :: s215 :: s216 :: s217 :: s218 :: s219 :: s220 :: s221 :: s222 :: s223 :: s224 :: s225 :: s226 :: s227 :: s228 :: s229 :: s230 :: s231 :: s232 :: s233 :: s234 :: s235 :: s236 :: s237 :: s238 :: s239 :: s240 :: s241 :: s242 :: s243 :: s244 :: s245 :: s246 :: s247 :: s248 :: s249 :: s250 :: s251 :: s252 :: []).toArray, []⟩ W1 := by
  subst hsw
  conv => arg 2; whnf
  have HNB : Hid (¬ B = G.bc) := HP.out.n2.2.2.1
  have HNX : Hid (¬ X1 = G.bc) := fun e => HP.out.o1.2.1.2.2 e.symm
  obtain ⟨is, his⟩ : ∃ b, b = insB G.w G.h a.x a.y := ⟨_, rfl⟩
  obtain ⟨F, hF⟩ : ∃ F, F = setF G.w G.h f a.x a.y a.c := ⟨_, rfl⟩
  have HSET : Hid (∀ W, GridAt W G f → Calls Try.prog 10 #[.pointer (some ⟨G.g, 0, none⟩), .int .i64 a.x, .int .i64 a.y, .agg #[.int .i32 a.c.r, .int .i64 a.c.fg, .int .i64 a.c.bg, .int .i64 a.c.fl]] W (Turns (.bool is) G F W)) := fun W h => by rw [his, hF]; exact set10 G f a.x a.y a.c W h HWF.out.1 HWF.out.2
  have HIN : Hid (∀ W, Calls Try.prog 11 #[.agg #[.int .i64 q.g3.w, .int .i64 q.g3.h, q.g3.l], .int .i64 a.x, .int .i64 a.y] W (Gives (.bool is) W)) := fun W => by
    have := refIn11 q a.x a.y W HQ0.out.w1 HQ0.out.h1
    rwa [HZ.out.1, HZ.out.2.1, ← his] at this
  have HRS : Hid (∀ W, RefAt W q f → Calls Try.prog 12 #[.agg #[.int .i64 q.g3.w, .int .i64 q.g3.h, q.g3.l], .int .i64 a.x, .int .i64 a.y, .agg #[.int .i32 a.c.r, .int .i64 a.c.fg, .int .i64 a.c.bg, .int .i64 a.c.fl]] W (NewRefC G.w G.h F W)) := fun W h => by
    have := refSetC q f a.x a.y a.c W h
    rwa [HZ.out.1, HZ.out.2.1, ← hF] at this
  clear his hF
  go_upto_region 14 with fail
  have hS : (fun w' => Stay (fun j => j = G.bc) W1 w') W1.drew := (Stay.refl _ _).drew
  refine wp_region_mix (fun w' => Stay (fun j => j = G.bc) W1 w') [(0, true), (1, true), (2, true), (3, true), (4, true), (5, true), (6, true), (8, true), (9, true), (10, true), (11, true), (12, true), (7, false), (13, false), (14, true)] (by kernel_rfl) (by kernel_rfl) (fun _ d _ _ _ h => by cases d <;> exact h) hS ?_
  refine mix_begin (fun K0 hK0 => ?_)
  refine mix_take hK0 (some 69) (.move (.tmp 9)) 24 _ (by kernel_rfl) (by kernel_rfl) (fun w' hS' => by (obtain ⟨c0, c1, c2, c3, c4, c5, c6, c7, c8, c9, c10⟩ := HP.out.act.stay hS' HNB.out; simp only [opr]; go_simp; try with_reducible rfl)) (fun K1 hK1 => ?_)
  clear hK0 K0
  simp only [Act.put, List.setIfInBounds_toArray, List.set_cons_zero, List.set_cons_succ]
  refine mix_take hK1 (some 70) (.fieldAddr 37 (.tmp 14) 2) 0 _ (by kernel_rfl) (by kernel_rfl) (fun w' hS' => by (obtain ⟨c0, c1, c2, c3, c4, c5, c6, c7, c8, c9, c10⟩ := HP.out.act.stay hS' HNB.out; simp only [opr]; go_simp; try with_reducible rfl)) (fun K2 hK2 => ?_)
  clear hK1 K1
  simp only [Act.put, List.setIfInBounds_toArray, List.set_cons_zero, List.set_cons_succ]
  refine mix_take hK2 (some 71) (.load 3 (.tmp 70)) 3 _ (by kernel_rfl) (by kernel_rfl) (fun w' hS' => by (obtain ⟨c0, c1, c2, c3, c4, c5, c6, c7, c8, c9, c10⟩ := HP.out.act.stay hS' HNB.out; simp only [opr]; go_simp; try with_reducible rfl)) (fun K3 hK3 => ?_)
  clear hK2 K2
  simp only [Act.put, List.setIfInBounds_toArray, List.set_cons_zero, List.set_cons_succ]
  refine mix_take hK3 (some 72) (.fieldAddr 37 (.tmp 14) 3) 0 _ (by kernel_rfl) (by kernel_rfl) (fun w' hS' => by (obtain ⟨c0, c1, c2, c3, c4, c5, c6, c7, c8, c9, c10⟩ := HP.out.act.stay hS' HNB.out; simp only [opr]; go_simp; try with_reducible rfl)) (fun K4 hK4 => ?_)
  clear hK3 K3
  simp only [Act.put, List.setIfInBounds_toArray, List.set_cons_zero, List.set_cons_succ]
  refine mix_take hK4 (some 73) (.load 3 (.tmp 72)) 3 _ (by kernel_rfl) (by kernel_rfl) (fun w' hS' => by (obtain ⟨c0, c1, c2, c3, c4, c5, c6, c7, c8, c9, c10⟩ := HP.out.act.stay hS' HNB.out; simp only [opr]; go_simp; try with_reducible rfl)) (fun K5 hK5 => ?_)
  clear hK4 K4
  simp only [Act.put, List.setIfInBounds_toArray, List.set_cons_zero, List.set_cons_succ]
  refine mix_take hK5 (some 74) (.fieldAddr 37 (.tmp 14) 4) 0 _ (by kernel_rfl) (by kernel_rfl) (fun w' hS' => by (obtain ⟨c0, c1, c2, c3, c4, c5, c6, c7, c8, c9, c10⟩ := HP.out.act.stay hS' HNB.out; simp only [opr]; go_simp; try with_reducible rfl)) (fun K6 hK6 => ?_)
  clear hK5 K5
  simp only [Act.put, List.setIfInBounds_toArray, List.set_cons_zero, List.set_cons_succ]
  refine mix_take hK6 (some 75) (.load 35 (.tmp 74)) 35 _ (by kernel_rfl) (by kernel_rfl) (fun w' hS' => by (obtain ⟨c0, c1, c2, c3, c4, c5, c6, c7, c8, c9, c10⟩ := HP.out.act.stay hS' HNB.out; simp only [opr]; go_simp; try with_reducible rfl)) (fun K7 hK7 => ?_)
  clear hK6 K6
  simp only [Act.put, List.setIfInBounds_toArray, List.set_cons_zero, List.set_cons_succ]
  refine mix_take hK7 (some 77) (.load 28 (.tmp 11)) 28 _ (by kernel_rfl) (by kernel_rfl) (fun w' hS' => by exact run_load_BoxG rfl rfl (HP.out.b1.stay hS' HNX.out)) (fun K8 hK8 => ?_)
  clear hK7 K7
  simp only [Act.put, List.setIfInBounds_toArray, List.set_cons_zero, List.set_cons_succ]
  refine mix_take hK8 (some 78) (.fieldAddr 37 (.tmp 14) 2) 0 _ (by kernel_rfl) (by kernel_rfl) (fun w' hS' => by (obtain ⟨c0, c1, c2, c3, c4, c5, c6, c7, c8, c9, c10⟩ := HP.out.act.stay hS' HNB.out; simp only [opr]; go_simp; try with_reducible rfl)) (fun K9 hK9 => ?_)
  clear hK8 K8
  simp only [Act.put, List.setIfInBounds_toArray, List.set_cons_zero, List.set_cons_succ]
  refine mix_take hK9 (some 79) (.load 3 (.tmp 78)) 3 _ (by kernel_rfl) (by kernel_rfl) (fun w' hS' => by (obtain ⟨c0, c1, c2, c3, c4, c5, c6, c7, c8, c9, c10⟩ := HP.out.act.stay hS' HNB.out; simp only [opr]; go_simp; try with_reducible rfl)) (fun K10 hK10 => ?_)
  clear hK9 K9
  simp only [Act.put, List.setIfInBounds_toArray, List.set_cons_zero, List.set_cons_succ]
  refine mix_take hK10 (some 80) (.fieldAddr 37 (.tmp 14) 3) 0 _ (by kernel_rfl) (by kernel_rfl) (fun w' hS' => by (obtain ⟨c0, c1, c2, c3, c4, c5, c6, c7, c8, c9, c10⟩ := HP.out.act.stay hS' HNB.out; simp only [opr]; go_simp; try with_reducible rfl)) (fun K11 hK11 => ?_)
  clear hK10 K10
  simp only [Act.put, List.setIfInBounds_toArray, List.set_cons_zero, List.set_cons_succ]
  refine mix_take hK11 (some 81) (.load 3 (.tmp 80)) 3 _ (by kernel_rfl) (by kernel_rfl) (fun w' hS' => by (obtain ⟨c0, c1, c2, c3, c4, c5, c6, c7, c8, c9, c10⟩ := HP.out.act.stay hS' HNB.out; simp only [opr]; go_simp; try with_reducible rfl)) (fun K12 hK12 => ?_)
  clear hK11 K11
  simp only [Act.put, List.setIfInBounds_toArray, List.set_cons_zero, List.set_cons_succ]
  refine mix_call hK12 (some 76) 10 #[.tmp 69, .tmp 71, .tmp 73, .tmp 75] #[24, 3, 3, 35] 4 _ (by kernel_rfl) (by kernel_rfl) (enters Try.func10 (by kernel_rfl) (by kernel_rfl)) (by go_simp; try with_reducible rfl) (fun K13 hK13 => ?_)
  clear hK12 K12
  refine (HSET.out _ (HP.out.g1.keep (Stay.refl _ _).drew)).mono ?_
  rintro e wm1 ⟨rfl, hs1, hg1⟩
  have hS1 : _ := hS.trans hs1
  refine ⟨_, rfl, hS1, ?_⟩
  have HP1 := hide' ((HP.out.keep (Stay.refl _ _).drew).grid1 hs1 hg1)
  clear hg1
  clear hs1
  simp only [Act.put, List.setIfInBounds_toArray, List.set_cons_zero, List.set_cons_succ]
  refine mix_call hK13 (some 82) 11 #[.tmp 77, .tmp 79, .tmp 81] #[28, 3, 3] 4 _ (by kernel_rfl) (by kernel_rfl) (enters Try.func11 (by kernel_rfl) (by kernel_rfl)) (by go_simp; try with_reducible rfl) (fun K14 hK14 => ?_)
  clear hK13 K13
  refine (HIN.out _).mono ?_
  rintro e wm2 ⟨rfl, hs2⟩
  have hS2 : _ := hS1.trans (stay_any hs2)
  refine ⟨_, rfl, hS2, ?_⟩
  have HP2 := hide' (HP1.out.keep hs2)
  clear HP1
  clear hs2
  simp only [Act.put, List.setIfInBounds_toArray, List.set_cons_zero, List.set_cons_succ]
  refine mix_take hK14 (some 83) (.binOp BinOp.neq 4 (.tmp 76) (.tmp 82) 4) 4 _ (by kernel_rfl) (by kernel_rfl) (fun w' hS' => by (obtain ⟨c0, c1, c2, c3, c4, c5, c6, c7, c8, c9, c10⟩ := HP.out.act.stay hS' HNB.out; simp only [opr]; go_simp; try with_reducible rfl)) (fun K15 hK15 => ?_)
  clear hK14 K14
  simp only [Act.put, List.setIfInBounds_toArray, List.set_cons_zero, List.set_cons_succ]
  refine hK15 _ _ (mix_nil ?_)
  clear hK15 K15
  clear hS hS2
  obtain ⟨c0, c1, c2, c3, c4, c5, c6, c7, c8, c9, c10⟩ := HP2.out.act
  obtain ⟨a0, a1, a2, a3, a4, a5⟩ := HP2.out.b1
  go_wp2_with fail
  refine (HRS.out _ HP2.out.r1).mono ?_
  rintro e w5 ⟨q2, rfl, hs, hq, hqw, hqh, hqb⟩
  have HP5 := hide' (HP2.out.keep hs)
  have HQ2 := hide' hq
  have HFR := hide' (HP2.out.fresh hqb)
  have HZ2 : Hid (q2.w = G.w ∧ q2.h = G.h ∧ p.w = O.w ∧ p.h = O.h) := ⟨hqw, hqh, HZ.out.2.2⟩
  clear c0 c1 c2 c3 c4 c5 c6 c7 c8 c9 c10 a0 a1 a2 a3 a4 a5 hs hq hqw hqh hqb HP2 HP
  obtain ⟨a0, a1, a2, a3, a4, a5⟩ := HP5.out.b1
  go_wp2_with fail
  generalize hW : World.setCell (World.setCell (World.setCell _ _ _) _ _) _ _ = W6
  have HP6 : Hid (PL w X1 X2 B a G O q2 p F F g g W6) := by rw [← hW]; exact HP5.out.put1 HQ2.out HFR.out
  clear hW a0 a1 a2 a3 a4 a5
  go_meet
  exact ⟨G, q2, p, F, g, rfl, HP6.out, HZ2.out⟩

end Go.Proofs.Ytmpmdlbhiogelaa
