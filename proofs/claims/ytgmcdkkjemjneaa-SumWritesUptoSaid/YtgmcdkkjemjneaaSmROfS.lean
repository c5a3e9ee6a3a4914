/- The document's Of: all rounds of a block. -/
import Derived.Test.YtgmcdkkjemjneaaSmROfR
namespace Go.Proofs.Ytgmcdkkjemjneaa.Sm
open Go.RowKit
set_option linter.unusedVariables false

noncomputable def rounds64_code : Code := (Try.f10.body.bind (blockOf 8)).getD .skip
set_option maxRecDepth 1000000 in
set_option maxHeartbeats 4000000 in
theorem rounds64 (wr : World) {u0 u1 u2 u4 u5 u7 u8 u9 u10 u11 u14 u15 u16 u17 u18 u19 u20 u21 u22 u23 u24 u25 u26 u27 u28 u29 u30 u31 u32 u33 u34 u35 u36 u37 u38 u39 u40 u41 u42 u43 u44 u45 u46 u47 u48 u49 u50 u51 u52 u53 u54 u55 u56 u57 u58 u59 u60 u61 u62 u63 u64 u65 u66 u67 u68 u69 u70 u71 u72 u73 u74 u75 u76 u77 u78 u79 u80 u81 u82 u83 u84 u85 u86 u87 u88 u89 u90 u91 u92 u93 u94 u95 u96 u97 u98 u99 u100 u101 u102 u103 u104 u105 u106 u107 u108 u109 u110 u111 u112 u113 u114 u115 u116 u117 u118 u119 u120 u121 u122 u123 u124 u125 u126 u127 u128 u129 u130 u131 u132 u133 u134 u135 u136 u137 u138 u139 u140 u141 u142 u143 u144 u145 u146 u147 u148 u149 u150 u151 u152 u153 u154 u155 u156 u157 u158 u159 u160 u161 u162 u163 u164 u165 u166 u167 u168 u169 u170 u171 u172 u173 u174 u175 u176 u177 u178 u179 u180 u181 u182 u183 u184 u185 u186 u187 u188 u189 u190 u191 u192 u193 u194 u195 u196 u197 u198 u199 u200 u201 u202 u203 u204 u205 u206 u207 u208 u209 u210 u211 u212 u213 u214 u215 u216 u217 u218 u219 u220 u221 u222 u223 u224 u225 u226 u227 u228 u229 u230 u231 u232 u233 u234 u235 u236 u237 u238 u239 u240 u241 u242 u243 u244 u245 u246 u247 u248 u249 u250 u251 u252 u253 u254 u255 u256 u257 u258 u259 u260 u261 u262 u263 u264 u265 u266 u267 u268 u269 u270 u271 u272 u273 u274 u275 u276 : Value} {w : World} {O KB HB MB WB g L V : Nat} {P : List Int} {F fW : Nat → Value} {mW : Nat → Int} {S : W8} (hok : S.ok) (hwd : Wd mW fW 64) (hvk : Vk w wr O KB HB MB WB g L P F fW V S) (Q0 : Exit → Act → World → Prop)
    (hexit : ∀ (v13 v14 v15 v16 v17 v18 v149 v150 v151 v152 v153 v154 v155 v156 v157 v158 v159 v160 v161 v162 v163 v164 v165 v166 v167 v168 v169 v170 v171 v172 v173 v174 v175 v176 v177 v178 v179 v180 v181 v182 v183 v184 v185 v186 v187 v188 v189 v190 v191 v192 v193 v194 v195 v196 v197 v198 v199 v200 v201 v202 v203 v204 v205 v206 v207 v208 v209 v210 v211 v212 v213 v214 v215 v216 v217 v218 v219 v220 v221 v222 v223 v224 v225 v226 v227 v228 v229 v230 v231 v232 v233 v234 v235 v236 v237 v238 v239 v240 v241 v242 v243 v244 v245 v246 : Value)  (w' : World), Vk w w' O KB HB MB WB g L P F fW V (steps kf (sched mW) 64 S) → Q0 .normal ⟨#[u0, u1, u2, .pointer (some ⟨KB, 0, none⟩), u4, u5, .pointer (some ⟨WB, 0, none⟩), u7, u8, u9, u10, u11, .pointer (some ⟨V, 0, none⟩), v13, v14, v15, v16, v17, v18, u19, u20, u21, u22, u23, u24, u25, u26, u27, u28, u29, u30, u31, u32, u33, u34, u35, u36, u37, u38, u39, u40, u41, u42, u43, u44, u45, u46, u47, u48, u49, u50, u51, u52, u53, u54, u55, u56, u57, u58, u59, u60, u61, u62, u63, u64, u65, u66, u67, u68, u69, u70, u71, u72, u73, u74, u75, u76, u77, u78, u79, u80, u81, u82, u83, u84, u85, u86, u87, u88, u89, u90, u91, u92, u93, u94, u95, u96, u97, u98, u99, u100, u101, u102, u103, u104, u105, u106, u107, u108, u109, u110, u111, u112, u113, u114, u115, u116, u117, u118, u119, u120, u121, u122, u123, u124, u125, u126, u127, u128, u129, u130, u131, u132, u133, u134, u135, u136, u137, u138, u139, u140, u141, u142, u143, u144, u145, u146, u147, u148, v149, v150, v151, v152, v153, v154, v155, v156, v157, v158, v159, v160, v161, v162, v163, v164, v165, v166, v167, v168, v169, v170, v171, v172, v173, v174, v175, v176, v177, v178, v179, v180, v181, v182, v183, v184, v185, v186, v187, v188, v189, v190, v191, v192, v193, v194, v195, v196, v197, v198, v199, v200, v201, v202, v203, v204, v205, v206, v207, v208, v209, v210, v211, v212, v213, v214, v215, v216, v217, v218, v219, v220, v221, v222, v223, v224, v225, v226, v227, v228, v229, v230, v231, v232, v233, v234, v235, v236, v237, v238, v239, v240, v241, v242, v243, v244, v245, v246, u247, u248, u249, u250, u251, u252, u253, u254, u255, u256, u257, u258, u259, u260, u261, u262, u263, u264, u265, u266, u267, u268, u269, u270, u271, u272, u273, u274, u275, u276], []⟩ w') :
    Code.wp Try.prog rounds64_code Q0 ⟨#[u0, u1, u2, .pointer (some ⟨KB, 0, none⟩), u4, u5, .pointer (some ⟨WB, 0, none⟩), u7, u8, u9, u10, u11, .pointer (some ⟨V, 0, none⟩), .int .i64 0, u14, u15, u16, u17, u18, u19, u20, u21, u22, u23, u24, u25, u26, u27, u28, u29, u30, u31, u32, u33, u34, u35, u36, u37, u38, u39, u40, u41, u42, u43, u44, u45, u46, u47, u48, u49, u50, u51, u52, u53, u54, u55, u56, u57, u58, u59, u60, u61, u62, u63, u64, u65, u66, u67, u68, u69, u70, u71, u72, u73, u74, u75, u76, u77, u78, u79, u80, u81, u82, u83, u84, u85, u86, u87, u88, u89, u90, u91, u92, u93, u94, u95, u96, u97, u98, u99, u100, u101, u102, u103, u104, u105, u106, u107, u108, u109, u110, u111, u112, u113, u114, u115, u116, u117, u118, u119, u120, u121, u122, u123, u124, u125, u126, u127, u128, u129, u130, u131, u132, u133, u134, u135, u136, u137, u138, u139, u140, u141, u142, u143, u144, u145, u146, u147, u148, u149, u150, u151, u152, u153, u154, u155, u156, u157, u158, u159, u160, u161, u162, u163, u164, u165, u166, u167, u168, u169, u170, u171, u172, u173, u174, u175, u176, u177, u178, u179, u180, u181, u182, u183, u184, u185, u186, u187, u188, u189, u190, u191, u192, u193, u194, u195, u196, u197, u198, u199, u200, u201, u202, u203, u204, u205, u206, u207, u208, u209, u210, u211, u212, u213, u214, u215, u216, u217, u218, u219, u220, u221, u222, u223, u224, u225, u226, u227, u228, u229, u230, u231, u232, u233, u234, u235, u236, u237, u238, u239, u240, u241, u242, u243, u244, u245, u246, u247, u248, u249, u250, u251, u252, u253, u254, u255, u256, u257, u258, u259, u260, u261, u262, u263, u264, u265, u266, u267, u268, u269, u270, u271, u272, u273, u274, u275, u276], []⟩ wr := by
  have HE := Lib.hid hexit
  clear hexit
  conv => arg 2; whnf
  have HWd := Lib.hid hwd
  have HVk := Lib.hid hvk
  have HOk := Lib.hid hok
  clear hwd hvk hok
  go_wp2_with fail
  go_loopw [13] (fun s13 wr => ∃ (i : Nat) (a b c d e f h k : Int), s13 = .int .i64 i ∧ i ≤ 64 ∧ Hid (steps kf (sched mW) i S = ⟨a, b, c, d, e, f, h, k⟩) ∧ Hid (0 ≤ a ∧ a < 4294967296) ∧ Hid (0 ≤ e ∧ e < 4294967296) ∧ Hid (Vk w wr O KB HB MB WB g L P F fW V ⟨a, b, c, d, e, f, h, k⟩)) (fun s13 _ => 64 - (intOf s13).toNat)
  case atStart => exact ⟨0, S.a, S.b, S.c, S.d, S.e, S.f, S.g, S.h, rfl, by omega, Lib.hid rfl, Lib.hid (HOk.out 0), Lib.hid (HOk.out 4), HVk⟩
  case round =>
    clear HVk
    obtain ⟨i, a, b, c, d, e, f, h, k, rfl, hi, HS, HA, HEr, HVk⟩ := hrel
    by_cases hlt : i < 64
    · clear HE
      go_upto_block 9 with (fail)
      refine round9 _ hlt (HWd.out i hlt) HA.out HEr.out HVk.out _ ?_
      intro v14 v15 v16 v17 v18 v153 v154 v155 v156 v157 v158 v159 v160 v161 v162 v163 v164 v165 v166 v167 v168 v169 v170 v171 v172 v173 v174 v175 v176 v177 v178 v179 v180 v181 v182 v183 v184 v185 v186 v187 v188 v189 v190 v191 v192 v193 v194 v195 v196 v197 v198 v199 v200 v201 v202 v203 v204 v205 v206 v207 v208 v209 v210 v211 v212 v213 v214 v215 v216 v217 v218 v219 v220 v221 v222 v223 v224 v225 v226 v227 v228 v229 v230 v231 v232 v233 v234 v235 v236 v237 v238 v239 v240 v241 v242 v243 v244 v245 v246 w' hv'
      have HS2 : Hid (steps kf (sched mW) (i + 1) S = step ⟨a, b, c, d, e, f, h, k⟩ (kf i) (sched mW i)) := Lib.hid (by rw [steps, HS.out])
      have HVk2 := Lib.hid hv'
      have HA2 : Hid (0 ≤ (step ⟨a, b, c, d, e, f, h, k⟩ (kf i) (sched mW i)).a ∧ (step ⟨a, b, c, d, e, f, h, k⟩ (kf i) (sched mW i)).a < 4294967296) := Lib.hid (by rw [step_alt]; dsimp only; omega)
      have HE2 : Hid (0 ≤ (step ⟨a, b, c, d, e, f, h, k⟩ (kf i) (sched mW i)).e ∧ (step ⟨a, b, c, d, e, f, h, k⟩ (kf i) (sched mW i)).e < 4294967296) := Lib.hid (by rw [step_alt]; dsimp only; omega)
      clear hv' HS HA HEr HVk
      generalize step ⟨a, b, c, d, e, f, h, k⟩ (kf i) (sched mW i) = T at *
      obtain ⟨a2, b2, c2, d2, e2, f2, h2, k2⟩ := T
      go_wp2_with fail
      go_roundw
      case rel => exact ⟨i + 1, a2, b2, c2, d2, e2, f2, h2, k2, by go_num, by omega, HS2, HA2, HE2, HVk2⟩
      case measure => simp [intOf]; omega
    · have hV : Hid (Vk w wr O KB HB MB WB g L P F fW V (steps kf (sched mW) 64 S)) := Lib.hid (by
        have e2 : i = 64 := by omega
        have h1 := HS.out
        rw [e2] at h1
        rw [h1]
        exact HVk.out)
      have hd : decide ((i : Int) < 64) = false := by simp; omega
      clear HS HA HEr HVk hi
      go_wp2_with fail
      exact HE.out _ _ _ _ _ _ _ _ _ _ _ _ _ _ _ _ _ _ _ _ _ _ _ _ _ _ _ _ _ _ _ _ _ _ _ _ _ _ _ _ _ _ _ _ _ _ _ _ _ _ _ _ _ _ _ _ _ _ _ _ _ _ _ _ _ _ _ _ _ _ _ _ _ _ _ _ _ _ _ _ _ _ _ _ _ _ _ _ _ _ _ _ _ _ _ _ _ _ _ _ _ _ _ _ _ hV.out
end Go.Proofs.Ytgmcdkkjemjneaa.Sm
