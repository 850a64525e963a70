/-
  CapsPlays, what is done 3: walked. No conditions.
-/
import Derived.Test.YtlhfpnfiamgmlaaH0
namespace Go.Proofs.Ytlhfpnfiamgmlaa
open Go.RowKit

set_option maxRecDepth 100000 in
set_option maxHeartbeats 16000000 in
theorem plays_do3 {sw : Code} {w w1 w2 : World} {T B n g xc ab nb i ll : Nat} {q K : Int} {f : Nat → Sl} {N : List Nm} {mv : Value} {A : Ac} {c : Nm} {J K' K1 K2 K3 : Act → World → Prop} {s0 s2 s3 s4 s5 s6 s10 s13 s14 s15 s16 s17 s18 s19 s20 s21 s22 s23 s24 s25 s26 s27 s28 s29 s30 s31 s32 s33 s34 s35 s36 s37 s38 s39 s40 s41 s42 s43 s44 s45 s46 s47 s48 s49 s50 s51 s52 s53 s54 s55 s56 s57 s58 s59 s60 s61 s62 s63 s64 s65 s66 s67 s68 s69 s70 s71 s72 s73 s74 s75 s76 s77 s78 s79 s80 s81 s82 s83 s84 s85 s87 s88 s89 s90 s91 s92 s93 s94 s95 s96 s97 s98 s99 s100 s101 s102 s103 s104 s105 s106 s107 s108 s109 s110 s111 s112 s113 s114 s115 s116 s117 s118 s119 s120 s121 s122 s123 s124 s125 s126 s127 s128 s129 s130 s131 s132 s133 s134 s135 s136 s137 s138 s139 s140 s141 s142 s143 s144 s145 s146 s147 s148 s149 s150 s151 s152 s153 s154 s155 s156 s157 s158 s159 s160 s161 s162 s163 s164 s165 s166 s167 s168 s169 s170 s171 s172 s173 s174 s175 s176 s177 s178 s179 s180 s181 s182 s183 s184 s185 s186 s187 s188 s189 s190 s191 s192 s193 s194 s195 s196 s197 s198 s199 s200 s201 s202 s203 s204 s205 s206 s207 s208 s209 s210 s211 s212 s213 s214 s215 s216 s217 s218 s219 s220 s221 s222 s223 s224 s225 s226 s227 s228 s229 s230 s231 s232 s233 s234 s235 s236 s237 s238 s239 s240 s241 s242 s243 s244 s245 s246 s247 s248 s249 s250 s251 s252 s253 s254 s255 s256 s257 s258 s259 s260 s261 s262 s263 s264 s265 s266 s267 s268 s269 s270 s271 s272 s273 s274 s275 s276 s277 s278 s279 s280 s281 s282 s283 s284 s285 s286 s287 s288 s289 s290 s291 s292 s293 s294 s295 s296 s297 s298 s299 s300 s301 s302 s303 s304 s305 s306 : Value}
    (hsw : sw = switch3) (h3 : A.d = 3) (HQ : Hid (QIn w w1 T B n q f f K g N mv A ab c nb w2)) (HOB : Hid (∀ i, i < n → (f i).obj < 1000)) (HNL : Hid (∀ p ∈ N, I64 p.slot)) (HLN : Hid (N.length ≤ i)) (_HIL : Hid (i < ll ∧ ll ≤ 40)) (HTB : Hid (T < w1.heap.size ∧ B < w1.heap.size ∧ w.heap.size ≤ w1.heap.size)) (HN12 : Hid (0 < n ∧ n ≤ 12)) (HKB : Hid (K ≤ 41)) (HCS : Hid (I64 c.slot)) (_HAR : Hid (W64 A.rights)) (_HAO : Hid (A.obj < 1000))
    (hK : ∀ (a' : Act) (w' : World), Met J a' w' → K' a' w') (hR : ∀ (a' : Act) (w' : World), (∃ u6 u8 u9 u13 u14 u15 u16 u17 u18 u19 u20 u21 u22 u23 u24 u25 u26 u27 u28 u29 u30 u31 u32 u33 u34 u35 u36 u37 u38 u68 u69 u70 u71 u72 u73 u74 u75 u76 u77 u78 u79 u80 u81 u82 u83 u84 u85 u86 u87 u88 u89 u90 u91 u92 u93 u94 u95 u96 u97 u98 u99 u100 u101 u102 u103 u104 u105 u106 u107 u108 u109 u110 u111 u112 u113 u114 u115 u116 u117 u118 u119 u120 u121 u122 u123 u124 u125 u126 u127 u128 u129 u130 u131 u132 u133 u134 u135 u136 u137 u138 u139 u140 u141 u142 u143 u144 u145 u146 u147 u148 u149 u150 u151 u152 u153 u154 u155 u156 u157 u158 u159 u160 u161 u162 u163 u164 u165 u166 u167 u168 u169 u170 u171 u172 u173 u174 u175 u176 u177 u178 u179 u180 u181 u182 u183 u184 u185 u186 u187 u188 u189 u190 u191 u192 u193 u194 u195 u196 u197 u198 u199 u200 u201 u202 u203 u204 u205 u206 u207 u208 u209 u210 u211 u212 u213 u214 u215 u216 u217 u218 u219 u220 u221 u222 u223 u224 u225 u226 u227 u228 u229 u230 u231 u232 u233 u234 u235 u236 u237 u238 u239 u240 u241 u242 u243 u244 u245 u246 u247 u248 u249 u250 u251 u252 u253 u254 u255 u256 u257 u258 u259 u260 u261 u262 u263 u264 u265 u266 u267 u268 u269 u270 u271 u272 u273 u274 u275 u276 u277 u278 u279 u280 u281 u282 u283 u284 u285 u286 u287 u288 u289 u290 u291 u292 u293 u294 u295 u296 u297 u298 u299 u300 u301 u302 u303 u304 u305 : Value, (∃ (f2 : Nat → Sl) (g2 xc2 : Nat) (N2 : List Nm) (mv2 : Value), u8 = .slice (some ⟨g2, 0, none⟩) n xc2 ∧ u9 = mv2 ∧ Hid (RIn w w1 T B n q f2 (K + 1) g2 N2 mv2 w' ∧ QIn w w1 T B n q f2 f2 (K + 1) g2 N2 mv2 A ab c nb w' ∧ N2.length ≤ i + 1)) ∧ a' = ⟨(s0 :: (.int .i64 q) :: s2 :: s3 :: s4 :: s5 :: u6 :: (.pointer (some ⟨T, 0, none⟩)) :: u8 :: u9 :: s10 :: (.pointer (some ⟨ab, 0, none⟩)) :: (.pointer (some ⟨nb, 0, none⟩)) :: u13 :: u14 :: u15 :: u16 :: u17 :: u18 :: u19 :: u20 :: u21 :: u22 :: u23 :: u24 :: u25 :: u26 :: u27 :: u28 :: u29 :: u30 :: u31 :: u32 :: u33 :: u34 :: u35 :: u36 :: u37 :: u38 :: s39 :: s40 :: s41 :: s42 :: s43 :: s44 :: s45 :: s46 :: s47 :: s48 :: s49 :: s50 :: s51 :: s52 :: s53 :: s54 :: s55 :: s56 :: s57 :: s58 :: s59 :: s60 :: s61 :: s62 :: s63 :: s64 :: s65 :: s66 :: s67 :: u68 :: u69 :: u70 :: u71 :: u72 :: u73 :: u74 :: u75 :: u76 :: u77 :: u78 :: u79 :: u80 :: u81 :: u82 :: u83 :: u84 :: u85 :: u86 :: u87 :: u88 :: u89 :: u90 :: u91 :: u92 :: u93 :: u94 :: u95 :: u96 :: u97 :: u98 :: u99 :: u100 :: u101 :: u102 :: u103 :: u104 :: u105 :: u106 :: u107 :: u108 :: u109 :: u110 :: u111 :: u112 :: u113 :: u114 :: u115 :: u116 :: u117 :: u118 :: u119 :: u120 :: u121 :: u122 :: u123 :: u124 :: u125 :: u126 :: u127 :: u128 :: u129 :: u130 :: u131 :: u132 :: u133 :: u134 :: u135 :: u136 :: u137 :: u138 :: u139 :: u140 :: u141 :: u142 :: u143 :: u144 :: u145 :: u146 :: u147 :: u148 :: u149 :: u150 :: u151 :: u152 :: u153 :: u154 :: u155 :: u156 :: u157 :: u158 :: u159 :: u160 :: u161 :: u162 :: u163 :: u164 :: u165 :: u166 :: u167 :: u168 :: u169 :: u170 :: u171 :: u172 :: u173 :: u174 :: u175 :: u176 :: u177 :: u178 :: u179 :: u180 :: u181 :: u182 :: u183 :: u184 :: u185 :: u186 :: u187 :: u188 :: u189 :: u190 :: u191 :: u192 :: u193 :: u194 :: u195 :: u196 :: u197 :: u198 :: u199 :: u200 :: u201 :: u202 :: u203 :: u204 :: u205 :: u206 :: u207 :: u208 :: u209 :: u210 :: u211 :: u212 :: u213 :: u214 :: u215 :: u216 :: u217 :: u218 :: u219 :: u220 :: u221 :: u222 :: u223 :: u224 :: u225 :: u226 :: u227 :: u228 :: u229 :: u230 :: u231 :: u232 :: u233 :: u234 :: u235 :: u236 :: u237 :: u238 :: u239 :: u240 :: u241 :: u242 :: u243 :: u244 :: u245 :: u246 :: u247 :: u248 :: u249 :: u250 :: u251 :: u252 :: u253 :: u254 :: u255 :: u256 :: u257 :: u258 :: u259 :: u260 :: u261 :: u262 :: u263 :: u264 :: u265 :: u266 :: u267 :: u268 :: u269 :: u270 :: u271 :: u272 :: u273 :: u274 :: u275 :: u276 :: u277 :: u278 :: u279 :: u280 :: u281 :: u282 :: u283 :: u284 :: u285 :: u286 :: u287 :: u288 :: u289 :: u290 :: u291 :: u292 :: u293 :: u294 :: u295 :: u296 :: u297 :: u298 :: u299 :: u300 :: u301 :: u302 :: u303 :: u304 :: u305 :: s306 :: []).toArray, []⟩) → J a' w') :
    Code.wp Try.prog sw (Exit.then K' (Exit.inBlock 1 (Exit.then K1 (Exit.then K2 (Exit.inBlock 0 (Exit.then K3 (bodyPost Try.prog Try.f3 (LawTrue w)))))))) ⟨(s0 :: (.int .i64 q) :: s2 :: s3 :: s4 :: s5 :: s6 :: (.pointer (some ⟨T, 0, none⟩)) :: (.slice (some ⟨g, 0, none⟩) n xc) :: (mv) :: s10 :: (.pointer (some ⟨ab, 0, none⟩)) :: (.pointer (some ⟨nb, 0, none⟩)) :: s13 :: s14 :: s15 :: s16 :: s17 :: s18 :: s19 :: s20 :: s21 :: s22 :: s23 :: s24 :: s25 :: s26 :: s27 :: s28 :: s29 :: s30 :: s31 :: s32 :: s33 :: s34 :: s35 :: s36 :: s37 :: s38 :: s39 :: s40 :: s41 :: s42 :: s43 :: s44 :: s45 :: s46 :: s47 :: s48 :: s49 :: s50 :: s51 :: s52 :: s53 :: s54 :: s55 :: s56 :: s57 :: s58 :: s59 :: s60 :: s61 :: s62 :: s63 :: s64 :: s65 :: s66 :: s67 :: s68 :: s69 :: s70 :: s71 :: s72 :: s73 :: s74 :: s75 :: s76 :: s77 :: s78 :: s79 :: s80 :: s81 :: s82 :: s83 :: s84 :: s85 :: (.int .i64 A.d) :: s87 :: s88 :: s89 :: s90 :: s91 :: s92 :: s93 :: s94 :: s95 :: s96 :: s97 :: s98 :: s99 :: s100 :: s101 :: s102 :: s103 :: s104 :: s105 :: s106 :: s107 :: s108 :: s109 :: s110 :: s111 :: s112 :: s113 :: s114 :: s115 :: s116 :: s117 :: s118 :: s119 :: s120 :: s121 :: s122 :: s123 :: s124 :: s125 :: s126 :: s127 :: s128 :: s129 :: s130 :: s131 :: s132 :: s133 :: s134 :: s135 :: s136 :: s137 :: s138 :: s139 :: s140 :: s141 :: s142 :: s143 :: s144 :: s145 :: s146 :: s147 :: s148 :: s149 :: s150 :: s151 :: s152 :: s153 :: s154 :: s155 :: s156 :: s157 :: s158 :: s159 :: s160 :: s161 :: s162 :: s163 :: s164 :: s165 :: s166 :: s167 :: s168 :: s169 :: s170 :: s171 :: s172 :: s173 :: s174 :: s175 :: s176 :: s177 :: s178 :: s179 :: s180 :: s181 :: s182 :: s183 :: s184 :: s185 :: s186 :: s187 :: s188 :: s189 :: s190 :: s191 :: s192 :: s193 :: s194 :: s195 :: s196 :: s197 :: s198 :: s199 :: s200 :: s201 :: s202 :: s203 :: s204 :: s205 :: s206 :: s207 :: s208 :: s209 :: s210 :: s211 :: s212 :: s213 :: s214 :: s215 :: s216 :: s217 :: s218 :: s219 :: s220 :: s221 :: s222 :: s223 :: s224 :: s225 :: s226 :: s227 :: s228 :: s229 :: s230 :: s231 :: s232 :: s233 :: s234 :: s235 :: s236 :: s237 :: s238 :: s239 :: s240 :: s241 :: s242 :: s243 :: s244 :: s245 :: s246 :: s247 :: s248 :: s249 :: s250 :: s251 :: s252 :: s253 :: s254 :: s255 :: s256 :: s257 :: s258 :: s259 :: s260 :: s261 :: s262 :: s263 :: s264 :: s265 :: s266 :: s267 :: s268 :: s269 :: s270 :: s271 :: s272 :: s273 :: s274 :: s275 :: s276 :: s277 :: s278 :: s279 :: s280 :: s281 :: s282 :: s283 :: s284 :: s285 :: s286 :: s287 :: s288 :: s289 :: s290 :: s291 :: s292 :: s293 :: s294 :: s295 :: s296 :: s297 :: s298 :: s299 :: s300 :: s301 :: s302 :: s303 :: s304 :: s305 :: s306 :: []).toArray, []⟩ w2 := by
  subst hsw
  conv => arg 2; whnf
  have z0 : (A.d == 0) = false := by simp [h3]
  have z1 : (A.d == 1) = false := by simp [h3]
  have z2 : (A.d == 2) = false := by simp [h3]
  have z3 : (A.d == 3) = true := by rw [h3]; rfl
  have HD := hide' (revoke17 g n xc f A.env c.slot c.gen w2 HQ.out.ref HQ.out.vg.2 (HQ.out.tab.gb.wf (by have := HKB.out; omega)) HN12.out.1 (by have := HN12.out; omega) HCS.out)
  have HP := hide' (fun (w' : World) (h : TIn w T B n q f K w') => revoke_in A.env c.slot c.gen h (by have := HKB.out; omega))
  obtain ⟨e, hee⟩ : ∃ e, e = ownE n f A.env c.slot c.gen 0 := ⟨_, rfl⟩
  rw [← hee] at HD HP
  clear hee
  obtain ⟨a0, a1, a2, a3, a4, a5, a6, a7, a8, _⟩ := HQ.out.act
  obtain ⟨n0, n1, _, _⟩ := HQ.out.nm
  go_wp2_with fail
  refine HD.out.mono ?_
  rintro _ w3 ⟨f3, c3, g2, xc2, rfl, hs3, hr3, hg3, hd1, hd2⟩
  have HQw3 : Hid (QIn w w1 T B n q f f3 K g2 N mv A ab c nb w3) := HQ.out.doc hs3 hr3 hg3
  clear hs3 hr3 hg3 HD HQ
  clear a0 a1 a2 a3 a4 a5 a6 a7 a8 n0 n1
  obtain ⟨a0, a1, a2, a3, a4, a5, a6, a7, a8, _⟩ := HQw3.out.act
  obtain ⟨n0, n1, _, _⟩ := HQw3.out.nm
  go_wp2_with fail
  refine (HP.out _ HQw3.out.tab).mono ?_
  rintro _ w4 ⟨f4, c4, rfl, ht4, hs4, hp1, hp2⟩
  have hsame : f4 = f3 ∧ c4 = c3 ∧ ∀ i, i < n → (f3 i).obj < 1000 := by
    by_cases he : e = 0
    · obtain ⟨M, hM, rfl, rfl⟩ := hd2 he
      obtain ⟨M', hM', rfl, rfl⟩ := hp2 he
      obtain rfl := marks_same hM hM'
      exact ⟨rfl, rfl, ob_gone HOB.out⟩
    · obtain ⟨rfl, rfl⟩ := hd1 he
      obtain ⟨rfl, rfl⟩ := hp1 he
      exact ⟨rfl, rfl, HOB.out⟩
  obtain ⟨rfl, rfl, hob⟩ := hsame
  have HOBY := hide' hob
  have HQw4 : Hid (QIn w w1 T B n q f4 f4 (K + 1) g2 N mv A ab c nb w4) := HQw3.out.prog HTB.out.2.1 ht4 hs4
  clear ht4 hs4 hp1 hp2 hd1 hd2 hob HP HQw3
  clear a0 a1 a2 a3 a4 a5 a6 a7 a8 n0 n1
  go_wp2_with fail
  go_meet
  exact ⟨f4, g2, xc2, N, _, rfl, rfl, HQw4.out.rest (by omega) HOBY.out HNL.out, HQw4.out.le (by omega), by have := HLN.out; omega⟩

end Go.Proofs.Ytlhfpnfiamgmlaa
