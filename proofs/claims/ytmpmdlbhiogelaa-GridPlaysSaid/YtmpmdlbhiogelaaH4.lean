/-
  GridPlays, what is done 4: walked. No conditions.
-/
import Derived.Test.YtmpmdlbhiogelaaED
namespace Go.Proofs.Ytmpmdlbhiogelaa
open Go.RowKit

set_option maxRecDepth 100000 in
set_option maxHeartbeats 16000000 in
theorem plays_do4 {sw : Code} {w wr W1 : World} {X1 X2 B : Nat} {a : Ac} {G O : Gr} {q p : Rf} {f g : Nat → Cl} {J K' K1 K2 K3 : Act → World → Prop} {s0 s1 s2 s3 s4 s5 s6 s7 s8 s13 s15 s16 s17 s18 s19 s20 s21 s22 s23 s24 s25 s26 s27 s28 s29 s30 s31 s32 s33 s34 s35 s36 s37 s38 s39 s40 s41 s42 s43 s44 s45 s46 s47 s48 s49 s50 s51 s52 s53 s54 s55 s56 s57 s58 s59 s60 s61 s62 s63 s64 s65 s67 s68 s69 s70 s71 s72 s73 s74 s75 s76 s77 s78 s79 s80 s81 s82 s83 s84 s85 s86 s87 s88 s89 s90 s91 s92 s93 s94 s95 s96 s97 s98 s99 s100 s101 s102 s103 s104 s105 s106 s107 s108 s109 s110 s111 s112 s113 s114 s115 s116 s117 s118 s119 s120 s121 s122 s123 s124 s125 s126 s127 s128 s129 s130 s131 s132 s133 s134 s135 s136 s137 s138 s139 s140 s141 s142 s143 s144 s145 s146 s147 s148 s149 s150 s151 s152 s153 s154 s155 s156 s157 s158 s159 s160 s161 s162 s163 s164 s165 s166 s167 s168 s169 s170 s171 s172 s173 s174 s175 s176 s177 s178 s179 s180 s181 s182 s183 s184 s185 s186 s187 s188 s189 s190 s191 s192 s193 s194 s195 s196 s197 s198 s199 s200 s201 s202 s203 s204 s205 s206 s207 s208 s209 s210 s211 s212 s213 s214 s215 s216 s217 s218 s219 s220 s221 s222 s223 s224 s225 s226 s227 s228 s229 s230 s231 s232 s233 s234 s235 s236 s237 s238 s239 s240 s241 s242 s243 s244 s245 s246 s247 s248 s249 s250 s251 s252 : Value}
    (hsw : sw = switch3) (h4 : a.d = 4) (HP : Hid (PL w X1 X2 B a G O q p f f g g W1)) (HZ : Hid (q.w = G.w ∧ q.h = G.h ∧ p.w = O.w ∧ p.h = O.h)) (_HQ0 : Hid (RefAt wr q f)) (HWF : Hid (I64 a.x ∧ I64 a.y))
    (hK : ∀ (a' : Act) (w' : World), Met J a' w' → K' a' w') (hR : ∀ (a' : Act) (w' : World), (∃ u6 u9 u15 u16 u17 u18 u19 u20 u21 u22 u23 u24 u55 u56 u57 u58 u59 u60 u61 u62 u63 u64 u65 u66 u67 u68 u69 u70 u71 u72 u73 u74 u75 u76 u77 u78 u79 u80 u81 u82 u83 u84 u85 u86 u87 u88 u89 u90 u91 u92 u93 u94 u95 u96 u97 u98 u99 u100 u101 u102 u103 u104 u105 u106 u107 u108 u109 u110 u111 u112 u113 u114 u115 u116 u117 u118 u119 u120 u121 u122 u123 u124 u125 u126 u127 u128 u129 u130 u131 u132 u133 u134 u135 u136 u137 u138 u139 u140 u141 u142 u143 u144 u145 u146 u147 u148 u149 u150 u151 u152 u153 u154 u155 u156 u157 u158 u159 u160 u161 u162 u163 u164 u165 u166 u167 u168 u169 u170 u171 u172 u173 u174 u175 u176 u177 u178 u179 u180 u181 u182 u183 u184 u185 u186 u187 u188 u189 u190 u191 u192 u193 u194 u195 u196 u197 u198 u199 u200 u201 u202 u203 u204 u205 u206 u207 u208 u209 u210 u211 u212 u213 u214 u215 u216 u217 u218 u219 u220 u221 u222 u223 u224 u225 u226 u227 u228 u229 u230 u231 u232 u233 u234 u235 u236 u237 u238 u239 u240 u241 u242 u243 u244 u245 u246 u247 u248 u249 u250 u251 : Value, (∃ G q p f g, u9 = .pointer (some ⟨G.g, 0, none⟩) ∧ Hid (PL w X1 X2 B a G O q p f f g g w' ∧ (q.w = G.w ∧ q.h = G.h ∧ p.w = O.w ∧ p.h = O.h))) ∧ a' = ⟨(s0 :: s1 :: s2 :: s3 :: s4 :: s5 :: u6 :: s7 :: s8 :: u9 :: (.pointer (some ⟨O.g, 0, none⟩)) :: (.pointer (some ⟨X1, 0, none⟩)) :: (.pointer (some ⟨X2, 0, none⟩)) :: s13 :: (.pointer (some ⟨B, 0, none⟩)) :: u15 :: u16 :: u17 :: u18 :: u19 :: u20 :: u21 :: u22 :: u23 :: u24 :: s25 :: s26 :: s27 :: s28 :: s29 :: s30 :: s31 :: s32 :: s33 :: s34 :: s35 :: s36 :: s37 :: s38 :: s39 :: s40 :: s41 :: s42 :: s43 :: s44 :: s45 :: s46 :: s47 :: s48 :: s49 :: s50 :: s51 :: s52 :: s53 :: s54 :: u55 :: u56 :: u57 :: u58 :: u59 :: u60 :: u61 :: u62 :: u63 :: u64 :: u65 :: u66 :: u67 :: u68 :: u69 :: u70 :: u71 :: u72 :: u73 :: u74 :: u75 :: u76 :: u77 :: u78 :: u79 :: u80 :: u81 :: u82 :: u83 :: u84 :: u85 :: u86 :: u87 :: u88 :: u89 :: u90 :: u91 :: u92 :: u93 :: u94 :: u95 :: u96 :: u97 :: u98 :: u99 :: u100 :: u101 :: u102 :: u103 :: u104 :: u105 :: u106 :: u107 :: u108 :: u109 :: u110 :: u111 :: u112 :: u113 :: u114 :: u115 :: u116 :: u117 :: u118 :: u119 :: u120 :: u121 :: u122 :: u123 :: u124 :: u125 :: u126 :: u127 :: u128 :: u129 :: u130 :: u131 :: u132 :: u133 :: u134 :: u135 :: u136 :: u137 :: u138 :: u139 :: u140 :: u141 :: u142 :: u143 :: u144 :: u145 :: u146 :: u147 :: u148 :: u149 :: u150 :: u151 :: u152 :: u153 :: u154 :: u155 :: u156 :: u157 :: u158 :: u159 :: u160 :: u161 :: u162 :: u163 :: u164 :: u165 :: u166 :: u167 :: u168 :: u169 :: u170 :: u171 :: u172 :: u173 :: u174 :: u175 :: u176 :: u177 :: u178 :: u179 :: u180 :: u181 :: u182 :: u183 :: u184 :: u185 :: u186 :: u187 :: u188 :: u189 :: u190 :: u191 :: u192 :: u193 :: u194 :: u195 :: u196 :: u197 :: u198 :: u199 :: u200 :: u201 :: u202 :: u203 :: u204 :: u205 :: u206 :: u207 :: u208 :: u209 :: u210 :: u211 :: u212 :: u213 :: u214 :: u215 :: u216 :: u217 :: u218 :: u219 :: u220 :: u221 :: u222 :: u223 :: u224 :: u225 :: u226 :: u227 :: u228 :: u229 :: u230 :: u231 :: u232 :: u233 :: u234 :: u235 :: u236 :: u237 :: u238 :: u239 :: u240 :: u241 :: u242 :: u243 :: u244 :: u245 :: u246 :: u247 :: u248 :: u249 :: u250 :: u251 :: s252 :: []).toArray, []⟩) → J a' w') :
    Code.wp Try.prog sw (Exit.then K' (Exit.inBlock 1 (Exit.then K1 (Exit.then K2 (Exit.inBlock 0 (Exit.then K3 (bodyPost Try.prog Try.f3 (LawTrue w)))))))) ⟨(s0 :: s1 :: s2 :: s3 :: s4 :: s5 :: s6 :: s7 :: s8 :: (.pointer (some ⟨G.g, 0, none⟩)) :: (.pointer (some ⟨O.g, 0, none⟩)) :: (.pointer (some ⟨X1, 0, none⟩)) :: (.pointer (some ⟨X2, 0, none⟩)) :: s13 :: (.pointer (some ⟨B, 0, none⟩)) :: s15 :: s16 :: s17 :: s18 :: s19 :: s20 :: s21 :: s22 :: s23 :: s24 :: s25 :: s26 :: s27 :: s28 :: s29 :: s30 :: s31 :: s32 :: s33 :: s34 :: s35 :: s36 :: s37 :: s38 :: s39 :: s40 :: s41 :: s42 :: s43 :: s44 :: s45 :: s46 :: s47 :: s48 :: s49 :: s50 :: s51 :: s52 :: s53 :: s54 :: s55 :: s56 :: s57 :: s58 :: s59 :: s60 :: s61 :: s62 :: s63 :: s64 :: s65 :: (.int .i64 a.d) :: s67 :: s68 :: s69 :: s70 :: s71 :: s72 :: s73 :: s74 :: s75 :: s76 :: s77 :: s78 :: s79 :: s80 :: s81 :: s82 :: s83 :: s84 :: s85 :: s86 :: s87 :: s88 :: s89 :: s90 :: s91 :: s92 :: s93 :: s94 :: s95 :: s96 :: s97 :: s98 :: s99 :: s100 :: s101 :: s102 :: s103 :: s104 :: s105 :: s106 :: s107 :: s108 :: s109 :: s110 :: s111 :: s112 :: s113 :: s114 :: s115 :: s116 :: s117 :: s118 :: s119 :: s120 :: s121 :: s122 :: s123 :: s124 :: s125 :: s126 :: s127 :: s128 :: s129 :: s130 :: s131 :: s132 :: s133 :: s134 :: s135 :: s136 :: s137 :: s138 :: s139 :: s140 :: s141 :: s142 :: s143 :: s144 :: s145 :: s146 :: s147 :: s148 :: s149 :: s150 :: s151 :: s152 :: s153 :: s154 :: s155 :: s156 :: s157 :: s158 :: s159 :: s160 :: s161 :: s162 :: s163 :: s164 :: s165 :: s166 :: s167 :: s168 :: s169 :: s170 :: s171 :: s172 :: s173 :: s174 :: s175 :: s176 :: s177 :: s178 :: s179 :: s180 :: s181 :: s182 :: s183 :: s184 :: s185 :: s186 :: s187 :: s188 :: s189 :: s190 :: s191 :: s192 :: s193 :: s194 :: s195 :: s196 :: s197 :: s198 :: s199 :: s200 :: s201 :: s202 :: s203 :: s204 :: s205 :: s206 :: s207 :: s208 :: s209 :: s210 :: s211 :: s212 :: s213 :: s214 :: s215 :: s216 :: s217 :: s218 :: s219 :: s220 :: s221 :: s222 :: s223 :: s224 :: s225 :: s226 :: s227 :: s228 :: s229 :: s230 :: s231 :: s232 :: s233 :: s234 :: s235 :: s236 :: s237 :: s238 :: s239 :: s240 :: s241 :: s242 :: s243 :: s244 :: s245 :: s246 :: s247 :: s248 :: s249 :: s250 :: s251 :: s252 :: []).toArray, []⟩ W1 := by
  subst hsw
  conv => arg 2; whnf
  have z0 : (a.d == 0) = false := by simp [h4]
  have z1 : (a.d == 1) = false := by simp [h4]
  have z2 : (a.d == 2) = false := by simp [h4]
  have z3 : (a.d == 3) = false := by simp [h4]
  obtain ⟨N, hN⟩ : ∃ N, N = cntAll (comesB O.w O.h a.r a.x a.y) G.w G.h := ⟨_, rfl⟩
  obtain ⟨g1, hg1⟩ : ∃ F, F = setF O.w O.h g a.y a.x a.c := ⟨_, rfl⟩
  have HRF : Hid (∀ W (pp : Rf) (gp : Nat → Cl), RefAt W pp gp → RefAt W q f → pp.w = O.w → pp.h = O.h → Calls Try.prog 15 #[.agg #[.int .i64 pp.g3.w, .int .i64 pp.g3.h, pp.g3.l], .agg #[.int .i64 q.g3.w, .int .i64 q.g3.h, q.g3.l], .agg #[.int .i64 a.r.x, .int .i64 a.r.y, .int .i64 a.r.w, .int .i64 a.r.h], .int .i64 a.x, .int .i64 a.y] W (RefTwoC q.w q.h N (Blits O.w O.h G.w G.h a.r a.x a.y gp f) W)) := fun W pp gp h1 h2 h3 h4 => by
    have := refBlitC pp q gp f a.r a.x a.y W h1 h2 HWF.out.1 HWF.out.2
    rw [← HZ.out.1, ← HZ.out.2.1, ← h3, ← h4] at hN
    rw [← hN] at this
    rw [HZ.out.1, HZ.out.2.1, h3, h4] at this
    rw [HZ.out.1, HZ.out.2.1]
    exact this
  have HSET : Hid (∀ W, GridAt W O g → Calls Try.prog 10 #[.pointer (some ⟨O.g, 0, none⟩), .int .i64 a.y, .int .i64 a.x, .agg #[.int .i32 a.c.r, .int .i64 a.c.fg, .int .i64 a.c.bg, .int .i64 a.c.fl]] W (Turns (.bool (insB O.w O.h a.y a.x)) O g1 W)) := fun W h => by rw [hg1]; exact set10 O g a.y a.x a.c W h HWF.out.2 HWF.out.1
  have HRS : Hid (∀ W, RefAt W p g → Calls Try.prog 12 #[.agg #[.int .i64 p.g3.w, .int .i64 p.g3.h, p.g3.l], .int .i64 a.y, .int .i64 a.x, .agg #[.int .i32 a.c.r, .int .i64 a.c.fg, .int .i64 a.c.bg, .int .i64 a.c.fl]] W (NewRefC O.w O.h g1 W)) := fun W h => by
    have := refSetC p g a.y a.x a.c W h
    rwa [HZ.out.2.2.1, HZ.out.2.2.2, ← hg1] at this
  have HBL : Hid (∀ W, GridAt W O g1 → GridAt W G f → Calls Try.prog 18 #[.pointer (some ⟨O.g, 0, none⟩), .pointer (some ⟨G.g, 0, none⟩), .agg #[.int .i64 a.r.x, .int .i64 a.r.y, .int .i64 a.r.w, .int .i64 a.r.h], .int .i64 a.x, .int .i64 a.y] W (fun e w' => ∃ F, Turns (.int .i64 (N : Nat)) G F W e w' ∧ Blits O.w O.h G.w G.h a.r a.x a.y g1 f F)) := fun W h1 h2 => by
    rw [hN]
    exact blit18_any O G g1 f a.r a.x a.y W h1 h2 (.inr ⟨HP.out.o2.1, rfl⟩)
  clear hN hg1
  have HGO := hide' HP.out.o2.1
  obtain ⟨c0, c1, c2, c3, c4, c5, c6, c7, c8, c9, c10⟩ := HP.out.act
  obtain ⟨a0, a1, a2, a3, a4, a5⟩ := HP.out.b1
  obtain ⟨b0, b1, b2, b3, b4, b5⟩ := HP.out.b2
  go_wp2_with fail
  refine (HRF.out _ p g HP.out.r2 HP.out.r1 HZ.out.2.2.1 HZ.out.2.2.2).mono ?_
  rintro e w5 ⟨q0, F0, rfl, hs, hq, hqw, hqh, hqb, hf0⟩
  have hs2 : Stay (fun _ => False) w5 (w5.alloc (.cells #[.int .i64 (q0.w : Nat), .int .i64 (q0.h : Nat), .slice (some ⟨q0.b, 0, none⟩) q0.n q0.cap] 28)) := (Stay.refl _ _).alloc _
  have HP6 := hide' ((HP.out.keep hs).keep hs2)
  have HBN := hide' (BoxG.new (w := w5) q0.g3 rfl)
  have HAF : Hid (B ≠ w5.heap.size ∧ X1 ≠ w5.heap.size ∧ X2 ≠ w5.heap.size ∧ G.off w5.heap.size ∧ O.off w5.heap.size ∧ q.b ≠ w5.heap.size ∧ p.b ≠ w5.heap.size ∧ w.heap.size ≤ w5.heap.size) := by
    have hk := HP.out.keep hs
    have h1 := hk.act.lt
    have h2 := hk.b1.lt
    have h3 := hk.b2.lt
    have h4 := hk.r1.lt
    have h5 := hk.r2.lt
    exact ⟨by omega, by omega, by omega, hk.g1.off_new (Nat.le_refl _), hk.g2.off_new (Nat.le_refl _), by omega, by omega, hk.stay.size⟩
  clear c0 c1 c2 c3 c4 c5 c6 c7 c8 c9 c10 a0 a1 a2 a3 a4 a5 b0 b1 b2 b3 b4 b5 hs hs2 hq hqw hqh hqb hf0 HP
  go_upto_region 36 with fail
  obtain ⟨A23, hA⟩ : ∃ A, A = w5.heap.size := ⟨_, rfl⟩
  obtain ⟨W6, hW⟩ : ∃ W, W = (w5.alloc (.cells #[.int .i64 (q0.w : Nat), .int .i64 (q0.h : Nat), .slice (some ⟨q0.b, 0, none⟩) q0.n q0.cap] 28)) := ⟨_, rfl⟩
  have HBN' : Hid (BoxG W6 A23 q0.g3) := by rw [hW, hA]; exact HBN.out
  have HAL : Hid (A23 < W6.heap.size) := HBN'.out.lt
  rw [← hW] at HP6
  rw [← hA] at HAF
  rw [← hW, ← hA]
  clear hW hA HBN
  obtain ⟨c0, c1, c2, c3, c4, c5, c6, c7, c8, c9, c10⟩ := HP6.out.act
  go_wp2_with fail
  refine (HSET.out _ HP6.out.g2).mono ?_
  rintro e w7 ⟨rfl, hst, hO⟩
  have HP7 := hide' (HP6.out.grid2 hst hO)
  have HBN7 := hide' (HBN'.out.stay hst (fun e => HAF.out.2.2.2.2.1.2.2 e.symm))
  clear c0 c1 c2 c3 c4 c5 c6 c7 c8 c9 c10 hst hO HP6 HBN'
  obtain ⟨c0, c1, c2, c3, c4, c5, c6, c7, c8, c9, c10⟩ := HP7.out.act
  obtain ⟨b0, b1, b2, b3, b4, b5⟩ := HP7.out.b2
  go_wp2_with fail
  refine (HRS.out _ HP7.out.r2).mono ?_
  rintro e w8 ⟨p2, rfl, hs, hp, hpw, hph, hpb⟩
  have HP8 := hide' (HP7.out.keep hs)
  have HPN := hide' hp
  have HFR := hide' (HP7.out.fresh hpb)
  have HPW := hide' (show p2.w = O.w ∧ p2.h = O.h ∧ p2.b ≠ A23 from ⟨hpw, hph, by have := HBN7.out.lt; omega⟩)
  have HBN8 := hide' (HBN7.out.keep hs)
  clear c0 c1 c2 c3 c4 c5 c6 c7 c8 c9 c10 b0 b1 b2 b3 b4 b5 hs hp hpw hph hpb HP7 HBN7
  obtain ⟨b0, b1, b2, b3, b4, b5⟩ := HP8.out.b2
  go_upto_region 38 with fail
  generalize hW : World.setCell (World.setCell (World.setCell _ _ _) _ _) _ _ = W9
  have HP9 : Hid (PL w X1 X2 B a G O q p2 f f g1 g1 W9) := by rw [← hW]; exact HP8.out.put2 HPN.out HFR.out
  have HBN9 : Hid (BoxG W9 A23 q0.g3) := by rw [← hW]; exact HBN8.out.stay (putG_stay w8 X2 p2) (fun e => HAF.out.2.2.1 e.symm)
  clear hW b0 b1 b2 b3 b4 b5 HP8 HBN8 HPN HFR
  obtain ⟨c0, c1, c2, c3, c4, c5, c6, c7, c8, c9, c10⟩ := HP9.out.act
  obtain ⟨a0, a1, a2, a3, a4, a5⟩ := HP9.out.b1
  obtain ⟨b0, b1, b2, b3, b4, b5⟩ := HP9.out.b2
  go_wp2_with fail
  refine (HRF.out _ p2 g1 HP9.out.r2 HP9.out.r1 HPW.out.1 HPW.out.2.1).mono ?_
  rintro e w10 ⟨q2, F1, rfl, hs, hq, hqw, hqh, hqb, hf1⟩
  have HP10 := hide' (HP9.out.keep hs)
  have HBN10 := hide' (HBN9.out.keep hs)
  have HQ2 := hide' hq
  have HFR := hide' (show (q2.b ≠ G.bc ∧ q2.b ≠ O.bc ∧ q2.b ≠ X1 ∧ q2.b ≠ X2) ∧ q2.b ≠ A23 from ⟨HP9.out.fresh hqb, by have := HBN9.out.lt; omega⟩)
  have HZ2 : Hid (q2.w = G.w ∧ q2.h = G.h ∧ p2.w = O.w ∧ p2.h = O.h) := ⟨hqw.trans HZ.out.1, hqh.trans HZ.out.2.1, HPW.out.1, HPW.out.2.1⟩
  have HF1 := hide' hf1
  clear c0 c1 c2 c3 c4 c5 c6 c7 c8 c9 c10 a0 a1 a2 a3 a4 a5 b0 b1 b2 b3 b4 b5 hs hq hqw hqh hqb hf1 HP9 HBN9
  obtain ⟨b0, b1, b2, b3, b4, b5⟩ := HBN10.out
  go_upto_region 39 with fail
  generalize hW : World.setCell (World.setCell (World.setCell _ _ _) _ _) _ _ = W11
  have hst : Stay (fun k => k = A23) w10 W11 := by rw [← hW]; exact putG_stay w10 A23 q2
  have HBN11 : Hid (BoxG W11 A23 q2.g3) := by rw [← hW]; exact HBN10.out.put q2.g3
  have HP11 := hide' (HP10.out.other hst HAF.out.2.2.2.2.2.2.2 ⟨HAF.out.1, HAF.out.2.1, HAF.out.2.2.1, HAF.out.2.2.2.1, HAF.out.2.2.2.2.1, HAF.out.2.2.2.2.2.1, HPW.out.2.2⟩)
  have HQ3 := hide' (HQ2.out.stay hst HFR.out.2)
  clear hW hst b0 b1 b2 b3 b4 b5 HP10 HBN10 HQ2
  obtain ⟨a0, a1, a2, a3, a4, a5⟩ := HP11.out.b1
  obtain ⟨b0, b1, b2, b3, b4, b5⟩ := HBN11.out
  simp only [Rf.g3] at b0 b1 b2
  go_upto_region 40 with fail
  generalize hW : World.setCell (World.setCell (World.setCell _ _ _) _ _) _ _ = W12
  have HP12 : Hid (PL w X1 X2 B a G O q2 p2 f F1 g1 g1 W12) := by rw [← hW]; exact HP11.out.put1 HQ3.out HFR.out.1
  clear hW a0 a1 a2 a3 a4 a5 b0 b1 b2 b3 b4 b5 HP11 HBN11 HQ3
  obtain ⟨c0, c1, c2, c3, c4, c5, c6, c7, c8, c9, c10⟩ := HP12.out.act
  go_wp2_with fail
  refine (HBL.out _ HP12.out.g2 HP12.out.g1).mono ?_
  rintro e w13 ⟨F2, ⟨rfl, hst, hG⟩, hf2⟩
  have HP13 := hide' (HP12.out.grid1 hst hG)
  have HE2 : Hid (∀ X Y : Nat, X < G.w → Y < G.h → F1 (Y * G.w + X) = F2 (Y * G.w + X)) := fun X Y hX hY => (HF1.out X Y hX hY).trans (hf2 X Y hX hY).symm
  clear c0 c1 c2 c3 c4 c5 c6 c7 c8 c9 c10 hst hG hf2 HP12
  go_wp2_with fail
  go_meet
  exact ⟨G, q2, p2, F2, g1, rfl, HP13.out.meet1 ⟨HZ2.out.1, HZ2.out.2.1⟩ HE2.out, HZ2.out⟩

end Go.Proofs.Ytmpmdlbhiogelaa
