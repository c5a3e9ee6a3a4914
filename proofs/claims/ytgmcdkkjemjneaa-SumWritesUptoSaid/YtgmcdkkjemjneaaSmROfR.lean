/- The document's Of: one round. -/
import Derived.Test.YtgmcdkkjemjneaaSmROfP
namespace Go.Proofs.Ytgmcdkkjemjneaa.Sm
open Go.RowKit
set_option linter.unusedVariables false

noncomputable def round9_code : Code := (Try.f10.body.bind (blockOf 9)).getD .skip
set_option maxRecDepth 1000000 in
set_option maxHeartbeats 4000000 in
theorem round9 (wr : World) {u0 u1 u2 u4 u5 u7 u8 u9 u10 u11 u14 u15 u16 u17 u18 u19 u20 u21 u22 u23 u24 u25 u26 u27 u28 u29 u30 u31 u32 u33 u34 u35 u36 u37 u38 u39 u40 u41 u42 u43 u44 u45 u46 u47 u48 u49 u50 u51 u52 u53 u54 u55 u56 u57 u58 u59 u60 u61 u62 u63 u64 u65 u66 u67 u68 u69 u70 u71 u72 u73 u74 u75 u76 u77 u78 u79 u80 u81 u82 u83 u84 u85 u86 u87 u88 u89 u90 u91 u92 u93 u94 u95 u96 u97 u98 u99 u100 u101 u102 u103 u104 u105 u106 u107 u108 u109 u110 u111 u112 u113 u114 u115 u116 u117 u118 u119 u120 u121 u122 u123 u124 u125 u126 u127 u128 u129 u130 u131 u132 u133 u134 u135 u136 u137 u138 u139 u140 u141 u142 u143 u144 u145 u146 u147 u148 u149 u150 u151 u152 u153 u154 u155 u156 u157 u158 u159 u160 u161 u162 u163 u164 u165 u166 u167 u168 u169 u170 u171 u172 u173 u174 u175 u176 u177 u178 u179 u180 u181 u182 u183 u184 u185 u186 u187 u188 u189 u190 u191 u192 u193 u194 u195 u196 u197 u198 u199 u200 u201 u202 u203 u204 u205 u206 u207 u208 u209 u210 u211 u212 u213 u214 u215 u216 u217 u218 u219 u220 u221 u222 u223 u224 u225 u226 u227 u228 u229 u230 u231 u232 u233 u234 u235 u236 u237 u238 u239 u240 u241 u242 u243 u244 u245 u246 u247 u248 u249 u250 u251 u252 u253 u254 u255 u256 u257 u258 u259 u260 u261 u262 u263 u264 u265 u266 u267 u268 u269 u270 u271 u272 u273 u274 u275 u276 : Value} {w : World} {O KB HB MB WB g L V i : Nat} {P : List Int} {F fW : Nat → Value} {ta tb tc td te tf tg th x : Int} (hi : i < 64) (hx : fW i = .int .u32 x) (ha : 0 ≤ ta ∧ ta < 4294967296) (he : 0 ≤ te ∧ te < 4294967296) (hvk : Vk w wr O KB HB MB WB g L P F fW V ⟨ta, tb, tc, td, te, tf, tg, th⟩) (Q0 : Exit → Act → World → Prop)
    (hexit : ∀ (v14 v15 v16 v17 v18 v153 v154 v155 v156 v157 v158 v159 v160 v161 v162 v163 v164 v165 v166 v167 v168 v169 v170 v171 v172 v173 v174 v175 v176 v177 v178 v179 v180 v181 v182 v183 v184 v185 v186 v187 v188 v189 v190 v191 v192 v193 v194 v195 v196 v197 v198 v199 v200 v201 v202 v203 v204 v205 v206 v207 v208 v209 v210 v211 v212 v213 v214 v215 v216 v217 v218 v219 v220 v221 v222 v223 v224 v225 v226 v227 v228 v229 v230 v231 v232 v233 v234 v235 v236 v237 v238 v239 v240 v241 v242 v243 v244 v245 v246 : Value)  (w' : World), Vk w w' O KB HB MB WB g L P F fW V (step ⟨ta, tb, tc, td, te, tf, tg, th⟩ (kf i) x) → Q0 .normal ⟨#[u0, u1, u2, .pointer (some ⟨KB, 0, none⟩), u4, u5, .pointer (some ⟨WB, 0, none⟩), u7, u8, u9, u10, u11, .pointer (some ⟨V, 0, none⟩), .int .i64 (i : Int), v14, v15, v16, v17, v18, u19, u20, u21, u22, u23, u24, u25, u26, u27, u28, u29, u30, u31, u32, u33, u34, u35, u36, u37, u38, u39, u40, u41, u42, u43, u44, u45, u46, u47, u48, u49, u50, u51, u52, u53, u54, u55, u56, u57, u58, u59, u60, u61, u62, u63, u64, u65, u66, u67, u68, u69, u70, u71, u72, u73, u74, u75, u76, u77, u78, u79, u80, u81, u82, u83, u84, u85, u86, u87, u88, u89, u90, u91, u92, u93, u94, u95, u96, u97, u98, u99, u100, u101, u102, u103, u104, u105, u106, u107, u108, u109, u110, u111, u112, u113, u114, u115, u116, u117, u118, u119, u120, u121, u122, u123, u124, u125, u126, u127, u128, u129, u130, u131, u132, u133, u134, u135, u136, u137, u138, u139, u140, u141, u142, u143, u144, u145, u146, u147, u148, u149, u150, u151, u152, v153, v154, v155, v156, v157, v158, v159, v160, v161, v162, v163, v164, v165, v166, v167, v168, v169, v170, v171, v172, v173, v174, v175, v176, v177, v178, v179, v180, v181, v182, v183, v184, v185, v186, v187, v188, v189, v190, v191, v192, v193, v194, v195, v196, v197, v198, v199, v200, v201, v202, v203, v204, v205, v206, v207, v208, v209, v210, v211, v212, v213, v214, v215, v216, v217, v218, v219, v220, v221, v222, v223, v224, v225, v226, v227, v228, v229, v230, v231, v232, v233, v234, v235, v236, v237, v238, v239, v240, v241, v242, v243, v244, v245, v246, u247, u248, u249, u250, u251, u252, u253, u254, u255, u256, u257, u258, u259, u260, u261, u262, u263, u264, u265, u266, u267, u268, u269, u270, u271, u272, u273, u274, u275, u276], []⟩ w') :
    Code.wp Try.prog round9_code Q0 ⟨#[u0, u1, u2, .pointer (some ⟨KB, 0, none⟩), u4, u5, .pointer (some ⟨WB, 0, none⟩), u7, u8, u9, u10, u11, .pointer (some ⟨V, 0, none⟩), .int .i64 (i : Int), u14, u15, u16, u17, u18, u19, u20, u21, u22, u23, u24, u25, u26, u27, u28, u29, u30, u31, u32, u33, u34, u35, u36, u37, u38, u39, u40, u41, u42, u43, u44, u45, u46, u47, u48, u49, u50, u51, u52, u53, u54, u55, u56, u57, u58, u59, u60, u61, u62, u63, u64, u65, u66, u67, u68, u69, u70, u71, u72, u73, u74, u75, u76, u77, u78, u79, u80, u81, u82, u83, u84, u85, u86, u87, u88, u89, u90, u91, u92, u93, u94, u95, u96, u97, u98, u99, u100, u101, u102, u103, u104, u105, u106, u107, u108, u109, u110, u111, u112, u113, u114, u115, u116, u117, u118, u119, u120, u121, u122, u123, u124, u125, u126, u127, u128, u129, u130, u131, u132, u133, u134, u135, u136, u137, u138, u139, u140, u141, u142, u143, u144, u145, u146, u147, u148, u149, u150, u151, u152, u153, u154, u155, u156, u157, u158, u159, u160, u161, u162, u163, u164, u165, u166, u167, u168, u169, u170, u171, u172, u173, u174, u175, u176, u177, u178, u179, u180, u181, u182, u183, u184, u185, u186, u187, u188, u189, u190, u191, u192, u193, u194, u195, u196, u197, u198, u199, u200, u201, u202, u203, u204, u205, u206, u207, u208, u209, u210, u211, u212, u213, u214, u215, u216, u217, u218, u219, u220, u221, u222, u223, u224, u225, u226, u227, u228, u229, u230, u231, u232, u233, u234, u235, u236, u237, u238, u239, u240, u241, u242, u243, u244, u245, u246, u247, u248, u249, u250, u251, u252, u253, u254, u255, u256, u257, u258, u259, u260, u261, u262, u263, u264, u265, u266, u267, u268, u269, u270, u271, u272, u273, u274, u275, u276], []⟩ wr := by
  have HE := Lib.hid hexit
  clear hexit
  conv => arg 2; whnf
  have HVk := Lib.hid hvk
  have HT6 : Hid (∀ w, Calls Try.prog 22 #[.int .u32 te, .int .i64 6] w fun e w' => e = .returned (.int .u32 (rot te 6)) ∧ ∃ d, w' = w.drewN d) := Lib.hid (fun w => turn_any _ 6 w he.1 he.2 (by omega) (by omega))
  have HT11 : Hid (∀ w, Calls Try.prog 22 #[.int .u32 te, .int .i64 11] w fun e w' => e = .returned (.int .u32 (rot te 11)) ∧ ∃ d, w' = w.drewN d) := Lib.hid (fun w => turn_any _ 11 w he.1 he.2 (by omega) (by omega))
  have HT25 : Hid (∀ w, Calls Try.prog 22 #[.int .u32 te, .int .i64 25] w fun e w' => e = .returned (.int .u32 (rot te 25)) ∧ ∃ d, w' = w.drewN d) := Lib.hid (fun w => turn_any _ 25 w he.1 he.2 (by omega) (by omega))
  have HT2 : Hid (∀ w, Calls Try.prog 22 #[.int .u32 ta, .int .i64 2] w fun e w' => e = .returned (.int .u32 (rot ta 2)) ∧ ∃ d, w' = w.drewN d) := Lib.hid (fun w => turn_any _ 2 w ha.1 ha.2 (by omega) (by omega))
  have HT13 : Hid (∀ w, Calls Try.prog 22 #[.int .u32 ta, .int .i64 13] w fun e w' => e = .returned (.int .u32 (rot ta 13)) ∧ ∃ d, w' = w.drewN d) := Lib.hid (fun w => turn_any _ 13 w ha.1 ha.2 (by omega) (by omega))
  have HT22 : Hid (∀ w, Calls Try.prog 22 #[.int .u32 ta, .int .i64 22] w fun e w' => e = .returned (.int .u32 (rot ta 22)) ∧ ∃ d, w' = w.drewN d) := Lib.hid (fun w => turn_any _ 22 w ha.1 ha.2 (by omega) (by omega))
  have HX := Lib.hid hx
  have hi0 : (0 : Int) ≤ (i : Int) := by omega
  have hi1 : (i : Int) < 64 := by omega
  have hi2 := hi
  clear hvk hx ha he hi
  have c4 : wr.cell? ⟨V, 4, none⟩ = some (.int .u32 te) := HVk.out.rowV.cell (by omega)
  go_wp2_with fail
  go_quiet ((go_at_call 22; first | (with_reducible exact Calls.quiet_of (HT6.out _)) | (with_reducible exact Calls.quiet_of (HT11.out _)) | (with_reducible exact Calls.quiet_of (HT25.out _))))
  have HVk1 : Hid (Vk w (wr.drewN nq) O KB HB MB WB g L P F fW V ⟨ta, tb, tc, td, te, tf, tg, th⟩) := Lib.hid (HVk.out.same rfl rfl rfl rfl)
  clear c4 HVk HT6 HT11 HT25
  generalize wr.drewN nq = wr1 at *
  have c4 : wr1.cell? ⟨V, 4, none⟩ = some (.int .u32 te) := HVk1.out.rowV.cell (by omega)
  have c5 : wr1.cell? ⟨V, 5, none⟩ = some (.int .u32 tf) := HVk1.out.rowV.cell (by omega)
  have c6 : wr1.cell? ⟨V, 6, none⟩ = some (.int .u32 tg) := HVk1.out.rowV.cell (by omega)
  have c7 : wr1.cell? ⟨V, 7, none⟩ = some (.int .u32 th) := HVk1.out.rowV.cell (by omega)
  have ck : wr1.cell? ⟨KB, i, none⟩ = some (.int .u32 (kf i)) := HVk1.out.bk.rf.rowK.cell (by omega)
  have cw : wr1.cell? ⟨WB, i, none⟩ = some (.int .u32 x) := by rw [HVk1.out.bk.rowW.cell (by omega), HX.out]
  generalize hK : kf i = K at *
  have HKi := Lib.hid hK
  clear hK
  go_wp2_with fail
  go_quiet (fail)
  have HVk2 : Hid (Vk w (wr1.drewN nq) O KB HB MB WB g L P F fW V ⟨ta, tb, tc, td, te, tf, tg, th⟩) := Lib.hid (HVk1.out.same rfl rfl rfl rfl)
  clear c4 c5 c6 c7 ck cw HVk1
  generalize wr1.drewN nq = wr2 at *
  have c0 : wr2.cell? ⟨V, 0, none⟩ = some (.int .u32 ta) := HVk2.out.rowV.cell (by omega)
  go_wp2_with fail
  go_quiet ((go_at_call 22; first | (with_reducible exact Calls.quiet_of (HT2.out _)) | (with_reducible exact Calls.quiet_of (HT13.out _)) | (with_reducible exact Calls.quiet_of (HT22.out _))))
  have HVk3 : Hid (Vk w (wr2.drewN nq) O KB HB MB WB g L P F fW V ⟨ta, tb, tc, td, te, tf, tg, th⟩) := Lib.hid (HVk2.out.same rfl rfl rfl rfl)
  clear c0 HVk2 HT2 HT13 HT22
  generalize wr2.drewN nq = wr3 at *
  have c0 : wr3.cell? ⟨V, 0, none⟩ = some (.int .u32 ta) := HVk3.out.rowV.cell (by omega)
  have c1 : wr3.cell? ⟨V, 1, none⟩ = some (.int .u32 tb) := HVk3.out.rowV.cell (by omega)
  have c2 : wr3.cell? ⟨V, 2, none⟩ = some (.int .u32 tc) := HVk3.out.rowV.cell (by omega)
  have c3 : wr3.cell? ⟨V, 3, none⟩ = some (.int .u32 td) := HVk3.out.rowV.cell (by omega)
  have c4 : wr3.cell? ⟨V, 4, none⟩ = some (.int .u32 te) := HVk3.out.rowV.cell (by omega)
  have c5 : wr3.cell? ⟨V, 5, none⟩ = some (.int .u32 tf) := HVk3.out.rowV.cell (by omega)
  have c6 : wr3.cell? ⟨V, 6, none⟩ = some (.int .u32 tg) := HVk3.out.rowV.cell (by omega)
  have c7 : wr3.cell? ⟨V, 7, none⟩ = some (.int .u32 th) := HVk3.out.rowV.cell (by omega)
  have f0 : wr3.frozen? ⟨V, 0, none⟩ = false := HVk3.out.rowV.frozen _
  have f1 : wr3.frozen? ⟨V, 1, none⟩ = false := HVk3.out.rowV.frozen _
  have f2 : wr3.frozen? ⟨V, 2, none⟩ = false := HVk3.out.rowV.frozen _
  have f3 : wr3.frozen? ⟨V, 3, none⟩ = false := HVk3.out.rowV.frozen _
  have f4 : wr3.frozen? ⟨V, 4, none⟩ = false := HVk3.out.rowV.frozen _
  have f5 : wr3.frozen? ⟨V, 5, none⟩ = false := HVk3.out.rowV.frozen _
  have f6 : wr3.frozen? ⟨V, 6, none⟩ = false := HVk3.out.rowV.frozen _
  have f7 : wr3.frozen? ⟨V, 7, none⟩ = false := HVk3.out.rowV.frozen _
  go_wp2_with fail
  exact HE.out _ _ _ _ _ _ _ _ _ _ _ _ _ _ _ _ _ _ _ _ _ _ _ _ _ _ _ _ _ _ _ _ _ _ _ _ _ _ _ _ _ _ _ _ _ _ _ _ _ _ _ _ _ _ _ _ _ _ _ _ _ _ _ _ _ _ _ _ _ _ _ _ _ _ _ _ _ _ _ _ _ _ _ _ _ _ _ _ _ _ _ _ _ _ _ _ _ _ _ _ (by rw [step_alt, ← HKi.out]; exact HVk3.out.set8 _ _ _ _ _ _ _ _)
end Go.Proofs.Ytgmcdkkjemjneaa.Sm
