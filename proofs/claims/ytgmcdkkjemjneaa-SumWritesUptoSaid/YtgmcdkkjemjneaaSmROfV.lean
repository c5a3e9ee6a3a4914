/- The document's Of: a whole block. -/
import Derived.Test.YtgmcdkkjemjneaaSmROfQ
import Derived.Test.YtgmcdkkjemjneaaSmROfS
import Derived.Test.YtgmcdkkjemjneaaSmROfT
namespace Go.Proofs.Ytgmcdkkjemjneaa.Sm
open Go.RowKit
set_option linter.unusedVariables false

noncomputable def block64_code : Code := (Try.f10.body.bind (blockOf 3)).getD .skip
set_option maxRecDepth 1000000 in
set_option maxHeartbeats 4000000 in
theorem block64 (wr : World) {u0 u1 u2 u8 u9 u10 u11 u12 u13 u14 u15 u16 u17 u18 u19 u20 u21 u22 u23 u24 u25 u26 u27 u28 u29 u30 u31 u32 u33 u34 u35 u36 u37 u38 u39 u40 u41 u42 u43 u44 u45 u46 u47 u48 u49 u50 u51 u52 u53 u54 u55 u56 u57 u58 u59 u60 u61 u62 u63 u64 u65 u66 u67 u68 u69 u70 u71 u72 u73 u74 u75 u76 u77 u78 u79 u80 u81 u82 u83 u84 u85 u86 u87 u88 u89 u90 u91 u92 u93 u94 u95 u96 u97 u98 u99 u100 u101 u102 u103 u104 u105 u106 u107 u108 u109 u110 u111 u112 u113 u114 u115 u116 u117 u118 u119 u120 u121 u122 u123 u124 u125 u126 u127 u128 u129 u130 u131 u132 u133 u134 u135 u136 u137 u138 u139 u140 u141 u142 u143 u144 u145 u146 u147 u148 u149 u150 u151 u152 u153 u154 u155 u156 u157 u158 u159 u160 u161 u162 u163 u164 u165 u166 u167 u168 u169 u170 u171 u172 u173 u174 u175 u176 u177 u178 u179 u180 u181 u182 u183 u184 u185 u186 u187 u188 u189 u190 u191 u192 u193 u194 u195 u196 u197 u198 u199 u200 u201 u202 u203 u204 u205 u206 u207 u208 u209 u210 u211 u212 u213 u214 u215 u216 u217 u218 u219 u220 u221 u222 u223 u224 u225 u226 u227 u228 u229 u230 u231 u232 u233 u234 u235 u236 u237 u238 u239 u240 u241 u242 u243 u244 u245 u246 u247 u248 u249 u250 u251 u252 u253 u254 u255 u256 u257 u258 u259 u260 u261 u262 u263 u264 u265 u266 u267 u268 u269 u270 u271 u272 u273 u274 u275 u276 : Value} {w : World} {O KB HB MB WB g L C a : Nat} {P : List Int} {S : W8} {fW : Nat → Value} (hnm : Nm L C a P) (hok : S.ok) (hbk : Bk w wr O KB HB MB WB g L P (sF S) fW) (Q0 : Exit → Act → World → Prop)
    (hexit : ∀ (v8 v9 v10 v11 v12 v13 v14 v15 v16 v17 v18 v19 v48 v49 v50 v51 v52 v53 v54 v55 v56 v57 v58 v59 v60 v61 v62 v63 v64 v65 v66 v67 v68 v69 v70 v71 v72 v73 v74 v75 v76 v77 v78 v79 v80 v81 v82 v83 v84 v85 v86 v87 v88 v89 v90 v91 v92 v93 v94 v95 v96 v97 v98 v99 v100 v101 v102 v103 v104 v105 v106 v107 v108 v109 v110 v111 v112 v113 v114 v115 v116 v117 v118 v119 v120 v121 v122 v123 v124 v125 v126 v127 v128 v129 v130 v131 v132 v133 v134 v135 v136 v137 v138 v139 v140 v141 v142 v143 v144 v145 v146 v147 v148 v149 v150 v151 v152 v153 v154 v155 v156 v157 v158 v159 v160 v161 v162 v163 v164 v165 v166 v167 v168 v169 v170 v171 v172 v173 v174 v175 v176 v177 v178 v179 v180 v181 v182 v183 v184 v185 v186 v187 v188 v189 v190 v191 v192 v193 v194 v195 v196 v197 v198 v199 v200 v201 v202 v203 v204 v205 v206 v207 v208 v209 v210 v211 v212 v213 v214 v215 v216 v217 v218 v219 v220 v221 v222 v223 v224 v225 v226 v227 v228 v229 v230 v231 v232 v233 v234 v235 v236 v237 v238 v239 v240 v241 v242 v243 v244 v245 v246 v247 v248 v249 v250 v251 v252 v253 v254 v255 v256 v257 v258 v259 : Value)  (fW : Nat → Value) (w' : World), Bk w w' O KB HB MB WB g L P (sF (block kf S ((P.drop a).take 64))) fW → Q0 .normal ⟨#[u0, u1, u2, .pointer (some ⟨KB, 0, none⟩), .pointer (some ⟨HB, 0, none⟩), .slice (some ⟨g, 0, none⟩) L C, .pointer (some ⟨WB, 0, none⟩), .int .i64 (a : Int), v8, v9, v10, v11, v12, v13, v14, v15, v16, v17, v18, v19, u20, u21, u22, u23, u24, u25, u26, u27, u28, u29, u30, u31, u32, u33, u34, u35, u36, u37, u38, u39, u40, u41, u42, u43, u44, u45, u46, u47, v48, v49, v50, v51, v52, v53, v54, v55, v56, v57, v58, v59, v60, v61, v62, v63, v64, v65, v66, v67, v68, v69, v70, v71, v72, v73, v74, v75, v76, v77, v78, v79, v80, v81, v82, v83, v84, v85, v86, v87, v88, v89, v90, v91, v92, v93, v94, v95, v96, v97, v98, v99, v100, v101, v102, v103, v104, v105, v106, v107, v108, v109, v110, v111, v112, v113, v114, v115, v116, v117, v118, v119, v120, v121, v122, v123, v124, v125, v126, v127, v128, v129, v130, v131, v132, v133, v134, v135, v136, v137, v138, v139, v140, v141, v142, v143, v144, v145, v146, v147, v148, v149, v150, v151, v152, v153, v154, v155, v156, v157, v158, v159, v160, v161, v162, v163, v164, v165, v166, v167, v168, v169, v170, v171, v172, v173, v174, v175, v176, v177, v178, v179, v180, v181, v182, v183, v184, v185, v186, v187, v188, v189, v190, v191, v192, v193, v194, v195, v196, v197, v198, v199, v200, v201, v202, v203, v204, v205, v206, v207, v208, v209, v210, v211, v212, v213, v214, v215, v216, v217, v218, v219, v220, v221, v222, v223, v224, v225, v226, v227, v228, v229, v230, v231, v232, v233, v234, v235, v236, v237, v238, v239, v240, v241, v242, v243, v244, v245, v246, v247, v248, v249, v250, v251, v252, v253, v254, v255, v256, v257, v258, v259, u260, u261, u262, u263, u264, u265, u266, u267, u268, u269, u270, u271, u272, u273, u274, u275, u276], []⟩ w') :
    Code.wp Try.prog block64_code Q0 ⟨#[u0, u1, u2, .pointer (some ⟨KB, 0, none⟩), .pointer (some ⟨HB, 0, none⟩), .slice (some ⟨g, 0, none⟩) L C, .pointer (some ⟨WB, 0, none⟩), .int .i64 (a : Int), u8, u9, u10, u11, u12, u13, u14, u15, u16, u17, u18, u19, u20, u21, u22, u23, u24, u25, u26, u27, u28, u29, u30, u31, u32, u33, u34, u35, u36, u37, u38, u39, u40, u41, u42, u43, u44, u45, u46, u47, u48, u49, u50, u51, u52, u53, u54, u55, u56, u57, u58, u59, u60, u61, u62, u63, u64, u65, u66, u67, u68, u69, u70, u71, u72, u73, u74, u75, u76, u77, u78, u79, u80, u81, u82, u83, u84, u85, u86, u87, u88, u89, u90, u91, u92, u93, u94, u95, u96, u97, u98, u99, u100, u101, u102, u103, u104, u105, u106, u107, u108, u109, u110, u111, u112, u113, u114, u115, u116, u117, u118, u119, u120, u121, u122, u123, u124, u125, u126, u127, u128, u129, u130, u131, u132, u133, u134, u135, u136, u137, u138, u139, u140, u141, u142, u143, u144, u145, u146, u147, u148, u149, u150, u151, u152, u153, u154, u155, u156, u157, u158, u159, u160, u161, u162, u163, u164, u165, u166, u167, u168, u169, u170, u171, u172, u173, u174, u175, u176, u177, u178, u179, u180, u181, u182, u183, u184, u185, u186, u187, u188, u189, u190, u191, u192, u193, u194, u195, u196, u197, u198, u199, u200, u201, u202, u203, u204, u205, u206, u207, u208, u209, u210, u211, u212, u213, u214, u215, u216, u217, u218, u219, u220, u221, u222, u223, u224, u225, u226, u227, u228, u229, u230, u231, u232, u233, u234, u235, u236, u237, u238, u239, u240, u241, u242, u243, u244, u245, u246, u247, u248, u249, u250, u251, u252, u253, u254, u255, u256, u257, u258, u259, u260, u261, u262, u263, u264, u265, u266, u267, u268, u269, u270, u271, u272, u273, u274, u275, u276], []⟩ wr := by
  have HE := Lib.hid hexit
  clear hexit
  conv => arg 2; whnf
  have HNm := Lib.hid hnm
  have HBk := Lib.hid hbk
  have HOk := Lib.hid hok
  clear hbk hnm hok
  have hz3 := zero49
  generalize hZ3 : (uv (List.replicate 8 0)).toArray = Z3 at *
  have HZ3 : Hid (Z3.size = 8) := Lib.hid (by rw [← hZ3, List.size_toArray, uv_len]; rfl)
  clear hZ3
  go_upto_block 4 with (fail)
  refine words _ HNm.out HBk.out _ ?_
  intro v8 v48 v49 v50 v51 v52 v53 v54 v55 v56 v57 v58 v59 v60 v61 v62 v63 v64 v65 v66 v67 v68 v69 v70 v71 v72 v73 v74 v75 v76 v77 v78 v79 v80 v81 v82 v83 v84 v85 v86 v87 v88 v89 v90 v91 v92 v93 v94 fW1 w1 hb1
  obtain ⟨hwd1, hbk1⟩ := hb1
  have HWd1 := Lib.hid hwd1
  have HBk1 := Lib.hid hbk1
  have HMR : Hid (∀ j, 0 ≤ wordsOf ((P.drop a).take 64) j ∧ wordsOf ((P.drop a).take 64) j < 4294967296) := Lib.hid (fun j => word4_range _ _ _ _)
  clear hwd1 hbk1 HBk
  go_upto_block 6 with (fail)
  refine sched64 _ HMR.out HWd1.out HBk1.out _ ?_
  intro v9 v10 v11 v95 v96 v97 v98 v99 v100 v101 v102 v103 v104 v105 v106 v107 v108 v109 v110 v111 v112 v113 v114 v115 v116 v117 v118 v119 v120 v121 v122 v123 v124 v125 v126 v127 v128 v129 v130 v131 v132 v133 v134 v135 v136 v137 v138 v139 v140 v141 v142 v143 v144 v145 v146 v147 fW2 w2 hb2
  obtain ⟨hwd2, hbk2⟩ := hb2
  have HWd2 := Lib.hid hwd2
  have HBk2 := Lib.hid hbk2
  clear hwd2 hbk2 HBk1 HWd1
  have hHs : Hid (w2.rangeAt HB 0 (cellsOf (fun j => sF S (0 + j)) 8)) := Lib.hid (row_range HBk2.out.rf.rowH 0 8 (Nat.le_refl _))
  have HCe : Hid (cellsOf (fun j => sF S (0 + j)) 8 = cellsOf (sF S) 8) := Lib.hid (by congr 1; funext j; rw [Nat.zero_add])
  have HCL : Hid ((Try.prog.info? 49).map (·.size) = some (cellsOf (fun j => sF S (0 + j)) 8).length) := Lib.hid (by rw [cellsOf_length]; kernel_rfl)
  have HC1 : Hid ((cellsOf (fun j => sF S (0 + j)) 8).toArray.all (·.oneCell') = true) := Lib.hid (all_oneCell_toArray (fun v hv => by
    obtain ⟨j, hj, rfl⟩ := List.mem_map.1 hv
    rfl))
  have HCn : Hid ((cellsOf (fun j => sF S (0 + j)) 8).length = 8) := Lib.hid (cellsOf_length _ _)
  generalize cellsOf (fun j => sF S (0 + j)) 8 = CL at *
  have HCL2 : Hid ((Try.prog.info? 49).map (·.size) = some CL.toArray.size) := Lib.hid (by rw [List.size_toArray]; exact HCL.out)
  go_upto_region 22 with (first
    | (refine wpList_load_mid rfl _ _ rfl HB 0 rfl CL _ hHs.out Try.underlying49 rfl HCL.out ?_)
    | (refine wpList_store_mid rfl _ _ _ rfl w2.heap.size 0 CL.toArray rfl rfl (there_new w2 Z3 _ _ (by rw [List.size_toArray, HCn.out, HZ3.out]; exact Nat.le_refl _)) HCL2.out HC1.out ?_))
  have HVk := Lib.hid (Vk.start HBk2.out Z3 HZ3.out CL HCe.out)
  clear hHs HCe HCL HC1 HCn HCL2 HBk2 hz3 HZ3
  change Code.wp _ _ _ _ ((w2.alloc (.cells Z3 49)).setCells w2.heap.size 0 CL) 
  generalize (w2.alloc (.cells Z3 49)).setCells w2.heap.size 0 CL = w3 at *
  generalize w2.heap.size = V at *
  go_upto_block 8 with (fail)
  refine rounds64 _ HOk.out HWd2.out HVk.out _ ?_
  intro v13 v14 v15 v16 v17 v18 v149 v150 v151 v152 v153 v154 v155 v156 v157 v158 v159 v160 v161 v162 v163 v164 v165 v166 v167 v168 v169 v170 v171 v172 v173 v174 v175 v176 v177 v178 v179 v180 v181 v182 v183 v184 v185 v186 v187 v188 v189 v190 v191 v192 v193 v194 v195 v196 v197 v198 v199 v200 v201 v202 v203 v204 v205 v206 v207 v208 v209 v210 v211 v212 v213 v214 v215 v216 v217 v218 v219 v220 v221 v222 v223 v224 v225 v226 v227 v228 v229 v230 v231 v232 v233 v234 v235 v236 v237 v238 v239 v240 v241 v242 v243 v244 v245 v246 w4 hv4
  have HVk4 := Lib.hid hv4
  clear hv4 HVk
  go_upto_block 10 with (fail)
  refine mixed8 _ HVk4.out _ ?_
  intro v19 v247 v248 v249 v250 v251 v252 v253 v254 v255 v256 v257 v258 v259 w5 hv5
  have HBk5 : Hid (Bk w w5 O KB HB MB WB g L P (sF (block kf S ((P.drop a).take 64))) fW2) := Lib.hid hv5.bk
  clear hv5 HVk4
  go_wp2_with fail
  exact HE.out _ _ _ _ _ _ _ _ _ _ _ _ _ _ _ _ _ _ _ _ _ _ _ _ _ _ _ _ _ _ _ _ _ _ _ _ _ _ _ _ _ _ _ _ _ _ _ _ _ _ _ _ _ _ _ _ _ _ _ _ _ _ _ _ _ _ _ _ _ _ _ _ _ _ _ _ _ _ _ _ _ _ _ _ _ _ _ _ _ _ _ _ _ _ _ _ _ _ _ _ _ _ _ _ _ _ _ _ _ _ _ _ _ _ _ _ _ _ _ _ _ _ _ _ _ _ _ _ _ _ _ _ _ _ _ _ _ _ _ _ _ _ _ _ _ _ _ _ _ _ _ _ _ _ _ _ _ _ _ _ _ _ _ _ _ _ _ _ _ _ _ _ _ _ _ _ _ _ _ _ _ _ _ _ _ _ _ _ _ _ _ _ _ _ _ _ _ _ _ _ _ _ _ _ _ _ _ _ _ _ _ _ _ _ _ _ _ _ _ _ _ _ _ _ fW2 _ HBk5.out
end Go.Proofs.Ytgmcdkkjemjneaa.Sm
