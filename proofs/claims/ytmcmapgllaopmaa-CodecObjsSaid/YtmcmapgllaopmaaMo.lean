/- Texts of one's own, merged: SmROfW, SmROf, CdSha, CdApk, CdCo. -/
import Derived.Test.YtmcmapgllaopmaaMl
import Derived.Test.YtmcmapgllaopmaaMm
import Derived.Test.YtmcmapgllaopmaaMn

section
/- The document's Of: all blocks. -/
namespace Go.Proofs.Ytmcmapgllaopmaa.Sm
open Go.RowKit
set_option linter.unusedVariables false

noncomputable def blocksAll_code : Code := (Try.f60.body.bind (blockOf 2)).getD .skip
set_option maxRecDepth 1000000 in
set_option maxHeartbeats 4000000 in
theorem blocksAll (wr : World) {u0 u1 u2 u8 u9 u10 u11 u12 u13 u14 u15 u16 u17 u18 u19 u20 u21 u22 u23 u24 u25 u26 u27 u28 u29 u30 u31 u32 u33 u34 u35 u36 u37 u38 u39 u40 u41 u42 u43 u44 u45 u46 u47 u48 u49 u50 u51 u52 u53 u54 u55 u56 u57 u58 u59 u60 u61 u62 u63 u64 u65 u66 u67 u68 u69 u70 u71 u72 u73 u74 u75 u76 u77 u78 u79 u80 u81 u82 u83 u84 u85 u86 u87 u88 u89 u90 u91 u92 u93 u94 u95 u96 u97 u98 u99 u100 u101 u102 u103 u104 u105 u106 u107 u108 u109 u110 u111 u112 u113 u114 u115 u116 u117 u118 u119 u120 u121 u122 u123 u124 u125 u126 u127 u128 u129 u130 u131 u132 u133 u134 u135 u136 u137 u138 u139 u140 u141 u142 u143 u144 u145 u146 u147 u148 u149 u150 u151 u152 u153 u154 u155 u156 u157 u158 u159 u160 u161 u162 u163 u164 u165 u166 u167 u168 u169 u170 u171 u172 u173 u174 u175 u176 u177 u178 u179 u180 u181 u182 u183 u184 u185 u186 u187 u188 u189 u190 u191 u192 u193 u194 u195 u196 u197 u198 u199 u200 u201 u202 u203 u204 u205 u206 u207 u208 u209 u210 u211 u212 u213 u214 u215 u216 u217 u218 u219 u220 u221 u222 u223 u224 u225 u226 u227 u228 u229 u230 u231 u232 u233 u234 u235 u236 u237 u238 u239 u240 u241 u242 u243 u244 u245 u246 u247 u248 u249 u250 u251 u252 u253 u254 u255 u256 u257 u258 u259 u260 u261 u262 u263 u264 u265 u266 u267 u268 u269 u270 u271 u272 u273 u274 u275 u276 : Value} {w : World} {O KB HB MB WB g L C : Nat} {P : List Int} {fW : Nat → Value} (hL64 : L % 64 = 0) (hLb : L ≤ 1000000200) (hLC : L ≤ C) (hPl : P.length = L) (hPr : ∀ i, i < L → 0 ≤ P.getD i 0 ∧ P.getD i 0 ≤ 255) (hbk : Bk w wr O KB HB MB WB g L P (sF init) fW) (Q0 : Exit → Act → World → Prop)
    (hexit : ∀ (v7 v8 v9 v10 v11 v12 v13 v14 v15 v16 v17 v18 v19 v42 v43 v44 v45 v46 v47 v48 v49 v50 v51 v52 v53 v54 v55 v56 v57 v58 v59 v60 v61 v62 v63 v64 v65 v66 v67 v68 v69 v70 v71 v72 v73 v74 v75 v76 v77 v78 v79 v80 v81 v82 v83 v84 v85 v86 v87 v88 v89 v90 v91 v92 v93 v94 v95 v96 v97 v98 v99 v100 v101 v102 v103 v104 v105 v106 v107 v108 v109 v110 v111 v112 v113 v114 v115 v116 v117 v118 v119 v120 v121 v122 v123 v124 v125 v126 v127 v128 v129 v130 v131 v132 v133 v134 v135 v136 v137 v138 v139 v140 v141 v142 v143 v144 v145 v146 v147 v148 v149 v150 v151 v152 v153 v154 v155 v156 v157 v158 v159 v160 v161 v162 v163 v164 v165 v166 v167 v168 v169 v170 v171 v172 v173 v174 v175 v176 v177 v178 v179 v180 v181 v182 v183 v184 v185 v186 v187 v188 v189 v190 v191 v192 v193 v194 v195 v196 v197 v198 v199 v200 v201 v202 v203 v204 v205 v206 v207 v208 v209 v210 v211 v212 v213 v214 v215 v216 v217 v218 v219 v220 v221 v222 v223 v224 v225 v226 v227 v228 v229 v230 v231 v232 v233 v234 v235 v236 v237 v238 v239 v240 v241 v242 v243 v244 v245 v246 v247 v248 v249 v250 v251 v252 v253 v254 v255 v256 v257 v258 v259 : Value)  (fW : Nat → Value) (w' : World), Bk w w' O KB HB MB WB g L P (sF (run P)) fW → Q0 .normal ⟨#[u0, u1, u2, .pointer (some ⟨KB, 0, none⟩), .pointer (some ⟨HB, 0, none⟩), .slice (some ⟨g, 0, none⟩) L C, .pointer (some ⟨WB, 0, none⟩), v7, v8, v9, v10, v11, v12, v13, v14, v15, v16, v17, v18, v19, u20, u21, u22, u23, u24, u25, u26, u27, u28, u29, u30, u31, u32, u33, u34, u35, u36, u37, u38, u39, u40, u41, v42, v43, v44, v45, v46, v47, v48, v49, v50, v51, v52, v53, v54, v55, v56, v57, v58, v59, v60, v61, v62, v63, v64, v65, v66, v67, v68, v69, v70, v71, v72, v73, v74, v75, v76, v77, v78, v79, v80, v81, v82, v83, v84, v85, v86, v87, v88, v89, v90, v91, v92, v93, v94, v95, v96, v97, v98, v99, v100, v101, v102, v103, v104, v105, v106, v107, v108, v109, v110, v111, v112, v113, v114, v115, v116, v117, v118, v119, v120, v121, v122, v123, v124, v125, v126, v127, v128, v129, v130, v131, v132, v133, v134, v135, v136, v137, v138, v139, v140, v141, v142, v143, v144, v145, v146, v147, v148, v149, v150, v151, v152, v153, v154, v155, v156, v157, v158, v159, v160, v161, v162, v163, v164, v165, v166, v167, v168, v169, v170, v171, v172, v173, v174, v175, v176, v177, v178, v179, v180, v181, v182, v183, v184, v185, v186, v187, v188, v189, v190, v191, v192, v193, v194, v195, v196, v197, v198, v199, v200, v201, v202, v203, v204, v205, v206, v207, v208, v209, v210, v211, v212, v213, v214, v215, v216, v217, v218, v219, v220, v221, v222, v223, v224, v225, v226, v227, v228, v229, v230, v231, v232, v233, v234, v235, v236, v237, v238, v239, v240, v241, v242, v243, v244, v245, v246, v247, v248, v249, v250, v251, v252, v253, v254, v255, v256, v257, v258, v259, u260, u261, u262, u263, u264, u265, u266, u267, u268, u269, u270, u271, u272, u273, u274, u275, u276], []⟩ w') :
    Code.wp Try.prog blocksAll_code Q0 ⟨#[u0, u1, u2, .pointer (some ⟨KB, 0, none⟩), .pointer (some ⟨HB, 0, none⟩), .slice (some ⟨g, 0, none⟩) L C, .pointer (some ⟨WB, 0, none⟩), .int .i64 0, u8, u9, u10, u11, u12, u13, u14, u15, u16, u17, u18, u19, u20, u21, u22, u23, u24, u25, u26, u27, u28, u29, u30, u31, u32, u33, u34, u35, u36, u37, u38, u39, u40, u41, u42, u43, u44, u45, u46, u47, u48, u49, u50, u51, u52, u53, u54, u55, u56, u57, u58, u59, u60, u61, u62, u63, u64, u65, u66, u67, u68, u69, u70, u71, u72, u73, u74, u75, u76, u77, u78, u79, u80, u81, u82, u83, u84, u85, u86, u87, u88, u89, u90, u91, u92, u93, u94, u95, u96, u97, u98, u99, u100, u101, u102, u103, u104, u105, u106, u107, u108, u109, u110, u111, u112, u113, u114, u115, u116, u117, u118, u119, u120, u121, u122, u123, u124, u125, u126, u127, u128, u129, u130, u131, u132, u133, u134, u135, u136, u137, u138, u139, u140, u141, u142, u143, u144, u145, u146, u147, u148, u149, u150, u151, u152, u153, u154, u155, u156, u157, u158, u159, u160, u161, u162, u163, u164, u165, u166, u167, u168, u169, u170, u171, u172, u173, u174, u175, u176, u177, u178, u179, u180, u181, u182, u183, u184, u185, u186, u187, u188, u189, u190, u191, u192, u193, u194, u195, u196, u197, u198, u199, u200, u201, u202, u203, u204, u205, u206, u207, u208, u209, u210, u211, u212, u213, u214, u215, u216, u217, u218, u219, u220, u221, u222, u223, u224, u225, u226, u227, u228, u229, u230, u231, u232, u233, u234, u235, u236, u237, u238, u239, u240, u241, u242, u243, u244, u245, u246, u247, u248, u249, u250, u251, u252, u253, u254, u255, u256, u257, u258, u259, u260, u261, u262, u263, u264, u265, u266, u267, u268, u269, u270, u271, u272, u273, u274, u275, u276], []⟩ wr := by
  have HE := Lib.hid hexit
  clear hexit
  conv => arg 2; whnf
  have HBk := Lib.hid hbk
  have HL64 := Lib.hid hL64
  have HPl := Lib.hid hPl
  have HPr := Lib.hid hPr
  clear hbk hL64 hPl hPr
  dsimp only
  go_wp2_with fail
  go_loopw [7] (fun s7 wr => ∃ (a : Nat) (S : W8) (fW : Nat → Value), s7 = .int .i64 a ∧ a ≤ L ∧ Hid (a % 64 = 0) ∧ Hid (blocks kf ((L - a) / 64) S (P.drop a) = run P) ∧ Hid S.ok ∧ Hid (Bk w wr O KB HB MB WB g L P (sF S) fW)) (fun s7 _ => L - (intOf s7).toNat)
  case atStart => exact ⟨0, init, fW, rfl, Nat.zero_le _, Lib.hid rfl, Lib.hid (by rw [run, HPl.out]; rfl), Lib.hid init_ok, HBk⟩
  case round =>
    clear HBk
    obtain ⟨a, S, fW, rfl, haL, HA, HS, HO, HBk⟩ := hrel
    by_cases haL2 : a < L
    · clear HE
      have ha64 : a + 64 ≤ L := by have := HA.out; have := HL64.out; omega
      go_upto_block 3 with (fail)
      refine block64 _ ⟨ha64, hLb, hLC, HPr.out⟩ HO.out HBk.out _ ?_
      intro v8 v9 v10 v11 v12 v13 v14 v15 v16 v17 v18 v19 v48 v49 v50 v51 v52 v53 v54 v55 v56 v57 v58 v59 v60 v61 v62 v63 v64 v65 v66 v67 v68 v69 v70 v71 v72 v73 v74 v75 v76 v77 v78 v79 v80 v81 v82 v83 v84 v85 v86 v87 v88 v89 v90 v91 v92 v93 v94 v95 v96 v97 v98 v99 v100 v101 v102 v103 v104 v105 v106 v107 v108 v109 v110 v111 v112 v113 v114 v115 v116 v117 v118 v119 v120 v121 v122 v123 v124 v125 v126 v127 v128 v129 v130 v131 v132 v133 v134 v135 v136 v137 v138 v139 v140 v141 v142 v143 v144 v145 v146 v147 v148 v149 v150 v151 v152 v153 v154 v155 v156 v157 v158 v159 v160 v161 v162 v163 v164 v165 v166 v167 v168 v169 v170 v171 v172 v173 v174 v175 v176 v177 v178 v179 v180 v181 v182 v183 v184 v185 v186 v187 v188 v189 v190 v191 v192 v193 v194 v195 v196 v197 v198 v199 v200 v201 v202 v203 v204 v205 v206 v207 v208 v209 v210 v211 v212 v213 v214 v215 v216 v217 v218 v219 v220 v221 v222 v223 v224 v225 v226 v227 v228 v229 v230 v231 v232 v233 v234 v235 v236 v237 v238 v239 v240 v241 v242 v243 v244 v245 v246 v247 v248 v249 v250 v251 v252 v253 v254 v255 v256 v257 v258 v259 fW1 w1 hb1
      have HBk1 := Lib.hid hb1
      have HO1 : Hid (block kf S ((P.drop a).take 64)).ok := Lib.hid (mixin_ok _ _)
      have HS1 : Hid (blocks kf ((L - (a + 64)) / 64) (block kf S ((P.drop a).take 64)) (P.drop (a + 64)) = run P) := Lib.hid (by
        rw [← rblocks_cut P L a (by omega) S]; exact HS.out)
      have HA1 : Hid ((a + 64) % 64 = 0) := Lib.hid (by have := HA.out; omega)
      clear hb1 HBk HO HS HA
      go_wp2_with fail
      go_roundw
      case rel => exact ⟨a + 64, _, fW1, by go_num, ha64, HA1, HS1, HO1, HBk1⟩
      case measure => simp [intOf]; omega
    · have HX : Hid (Bk w wr O KB HB MB WB g L P (sF (run P)) fW) := Lib.hid (by
        have e : L - a = 0 := by omega
        have h := HS.out
        rw [e] at h
        rw [← h]
        exact HBk.out)
      have hd : decide ((a : Int) < (L : Int)) = false := by simp; omega
      clear HS HO HA HBk haL
      go_wp2_with fail
      exact HE.out _ _ _ _ _ _ _ _ _ _ _ _ _ _ _ _ _ _ _ _ _ _ _ _ _ _ _ _ _ _ _ _ _ _ _ _ _ _ _ _ _ _ _ _ _ _ _ _ _ _ _ _ _ _ _ _ _ _ _ _ _ _ _ _ _ _ _ _ _ _ _ _ _ _ _ _ _ _ _ _ _ _ _ _ _ _ _ _ _ _ _ _ _ _ _ _ _ _ _ _ _ _ _ _ _ _ _ _ _ _ _ _ _ _ _ _ _ _ _ _ _ _ _ _ _ _ _ _ _ _ _ _ _ _ _ _ _ _ _ _ _ _ _ _ _ _ _ _ _ _ _ _ _ _ _ _ _ _ _ _ _ _ _ _ _ _ _ _ _ _ _ _ _ _ _ _ _ _ _ _ _ _ _ _ _ _ _ _ _ _ _ _ _ _ _ _ _ _ _ _ _ _ _ _ _ _ _ _ _ _ _ _ _ _ _ _ _ _ _ _ _ _ _ _ _ _ _ _ _ _ _ fW _ HX.out
end Go.Proofs.Ytmcmapgllaopmaa.Sm
end

section
/- The document's Of. -/
namespace Go.Proofs.Ytmcmapgllaopmaa.Sm
open Go.RowKit
set_option linter.unusedVariables false

set_option maxRecDepth 100000 in
set_option maxHeartbeats 4000000 in
theorem rof_any (A : Option Addr) (n C : Nat) (l : List Int) (w : World) (hrd : RdB w A n C l) (hn : n ≤ 1000000000) :
    Calls Try.prog 60 #[.slice A n C] w fun e w' => e = .returned (.agg (bv (sha l)).toArray) ∧ Below w.heap.size w w' := by
  have HRd := Lib.hid hrd
  have hnC := hrd.cap
  clear hrd
  have hz1 := zero32
  have hz2 := zero48
  have hz3 := zero49
  generalize hZ1 : (bv (List.replicate 32 0)).toArray = Z1 at *
  generalize hZ2 : (uv (List.replicate 64 0)).toArray = Z2 at *
  generalize hZ3 : (uv (List.replicate 8 0)).toArray = Z3 at *
  have HZ1 := Lib.hid hZ1
  have HZ1k := HZ1
  have HZ2 := Lib.hid hZ2
  have HZ2k := HZ2
  have HZ3 := Lib.hid hZ3
  clear hZ1 hZ2 hZ3
  have HK1 := Lib.hid (show (uv kc).toArray.all (·.oneCell') = true from all_oneCell_toArray (uv_one kc))
  have HKS : Hid ((Try.prog.info? 157).map (·.size) = some (uv kc).toArray.size) := Lib.hid (by rw [List.size_toArray, uv_len]; kernel_rfl)
  have HI1 := Lib.hid (show (uv ic).toArray.all (·.oneCell') = true from all_oneCell_toArray (uv_one ic))
  have HIS : Hid ((Try.prog.info? 158).map (·.size) = some (uv ic).toArray.size) := Lib.hid (by rw [List.size_toArray, uv_len]; kernel_rfl)
  have hzs2 : Hid ((uv kc).toArray.size ≤ Z2.size) := Lib.hid (by rw [← HZ2.out, List.size_toArray, List.size_toArray, uv_len, uv_len]; decide)
  have hzs3 : Hid ((uv ic).toArray.size ≤ Z3.size) := Lib.hid (by rw [← HZ3.out, List.size_toArray, List.size_toArray, uv_len, uv_len]; decide)
  go_enter Try.func60, Try.ntmps60
  go_upto_region 1 with (fail)
  have HB1 := Lib.hid ((Below.refl w.heap.size w).alloc (Nat.le_refl _) (.cells Z1 37))
  have HO1 : Hid ((w.alloc (.cells Z1 37)).rowIs w.heap.size 37 32 (fun _ => .int .u8 0)) := Lib.hid (by rw [← HZ1.out]; exact row_zeros w 32 _)
  have hs1 := al_lt w (.cells Z1 37)
  clear HZ1
  generalize w.alloc (.cells Z1 37) = w1 at *
  generalize hO : w.heap.size = O at *
  have HO := Lib.hid hO
  clear hO
  go_upto_region 2 with (first
    | (refine wpList_build rfl 157 _ rfl (by kernel_rfl) ?_
       generalize hG : Option.getD (Program.built _ _ _) _ = KA
       have HKe : Hid (KA = (uv kc).toArray) := Lib.hid (hG.symm.trans (show _ = (uv kc).toArray from by kernel_rfl))
       clear hG
       have HKS2 : Hid ((Try.prog.info? 157).map (·.size) = some KA.size) := Lib.hid (by rw [HKe.out]; exact HKS.out)
       have HK2 : Hid (KA.all (·.oneCell') = true) := Lib.hid (by rw [HKe.out]; exact HK1.out)
       have hzk : Hid (KA.size ≤ Z2.size) := Lib.hid (by rw [HKe.out]; exact hzs2.out))
    | (refine wpList_store_mid rfl _ _ _ rfl w1.heap.size 0 KA rfl rfl (there_new w1 Z2 _ _ hzk.out) HKS2.out HK2.out ?_))
  have HK2r : Hid (((w1.alloc (.cells Z2 157)).setCells w1.heap.size 0 KA.toList).rowIs w1.heap.size 157 64 (fun i => (uv kc).getD i undef)) := Lib.hid (by
    rw [← HZ2.out, HKe.out]
    exact row_filled w1 (uv (List.replicate 64 0)) (uv kc) _ 64 (by rw [uv_len]; rfl) (by rw [uv_len]; rfl))
  have HB2 : Hid (Below O w ((w1.alloc (.cells Z2 157)).setCells w1.heap.size 0 KA.toList)) := Lib.hid (below_setCells _ (by omega) _ 0 _ (HB1.out.alloc (by omega) _))
  have HO2 : Hid (((w1.alloc (.cells Z2 157)).setCells w1.heap.size 0 KA.toList).rowIs O 37 32 (fun _ => .int .u8 0)) := Lib.hid (row_apart (by omega) _ 0 _ (World.rowIs.alloc HO1.out _))
  have hs2 : w1.heap.size < ((w1.alloc (.cells Z2 157)).setCells w1.heap.size 0 KA.toList).heap.size := HK2r.out.lt
  clear HKe HKS2 HK2 hzk HO1 HB1 hzs2 HK1 HKS
  generalize (w1.alloc (.cells Z2 157)).setCells w1.heap.size 0 KA.toList = w2 at *
  generalize hKB : w1.heap.size = KB at *
  clear hKB
  go_upto_region 3 with (first
    | (refine wpList_build rfl 158 _ rfl (by kernel_rfl) ?_
       generalize hG : Option.getD (Program.built _ _ _) _ = IA
       have HIe : Hid (IA = (uv ic).toArray) := Lib.hid (hG.symm.trans (show _ = (uv ic).toArray from by kernel_rfl))
       clear hG
       have HIS2 : Hid ((Try.prog.info? 158).map (·.size) = some IA.size) := Lib.hid (by rw [HIe.out]; exact HIS.out)
       have HI2 : Hid (IA.all (·.oneCell') = true) := Lib.hid (by rw [HIe.out]; exact HI1.out)
       have hzi : Hid (IA.size ≤ Z3.size) := Lib.hid (by rw [HIe.out]; exact hzs3.out))
    | (refine wpList_store_mid rfl _ _ _ rfl w2.heap.size 0 IA rfl rfl (there_new w2 Z3 _ _ hzi.out) HIS2.out HI2.out ?_))
  have HI3 : Hid (((w2.alloc (.cells Z3 158)).setCells w2.heap.size 0 IA.toList).rowIs w2.heap.size 158 8 (fun i => (uv ic).getD i undef)) := Lib.hid (by
    rw [← HZ3.out, HIe.out]
    exact row_filled w2 (uv (List.replicate 8 0)) (uv ic) _ 8 (by rw [uv_len]; rfl) (by rw [uv_len]; rfl))
  have HB3 : Hid (Below O w ((w2.alloc (.cells Z3 158)).setCells w2.heap.size 0 IA.toList)) := Lib.hid (below_setCells _ (by omega) _ 0 _ (HB2.out.alloc (by omega) _))
  have HO3 : Hid (((w2.alloc (.cells Z3 158)).setCells w2.heap.size 0 IA.toList).rowIs O 37 32 (fun _ => .int .u8 0)) := Lib.hid (row_apart (by omega) _ 0 _ (World.rowIs.alloc HO2.out _))
  have HK3 : Hid (((w2.alloc (.cells Z3 158)).setCells w2.heap.size 0 IA.toList).rowIs KB 157 64 (fun i => (uv kc).getD i undef)) := Lib.hid (row_apart (by omega) _ 0 _ (World.rowIs.alloc HK2r.out _))
  have hs3 : w2.heap.size < ((w2.alloc (.cells Z3 158)).setCells w2.heap.size 0 IA.toList).heap.size := HI3.out.lt
  clear HIe HIS2 HI2 hzi HO2 HB2 HZ3 hz3 hzs3 HI1 HIS HK2r
  generalize (w2.alloc (.cells Z3 158)).setCells w2.heap.size 0 IA.toList = w3 at *
  generalize hHB : w2.heap.size = HB at *
  clear hHB
  have HE3 := Lib.hid (own_empty_u w3 w3.heap.size (Nat.le_refl _))
  have hOw := HO.out
  have HR3 : Hid (RdB (w3.alloc (.cells #[] 5)) A n C l) := Lib.hid (HRd.out.below (by
    have h := HB3.out.alloc (show O ≤ w3.heap.size by omega) (.cells #[] 5)
    rw [← hOw] at h
    exact h))
  have hb3 := al_le w3 (.cells #[] 5)
  clear hOw
  go_wp2_with (at_builtin; refine wpList_append_rd _ rfl (.tmp 24) (.tmp 25) rfl w3.heap.size _ 0 [] rfl HE3.out A n C l rfl HR3.out (by omega) hb3 ?_)
  intro M1 C1 w4 ho4 hb4
  obtain ⟨i0, hi, hz0, hz1', hz2'⟩ := info_parts info5
  have HO4 := Lib.hid (show w4.ownsRow w3.heap.size 5 1 (.slice M1 n C1) n (bv l) by simpa using ho4)
  have hb34 : Below w3.heap.size w3 w4 := ((Below.refl w3.heap.size w3).alloc (Nat.le_refl _) (.cells #[] 5)).trans hb4
  have HB4 := Lib.hid (HB3.out.trans (hb34.mono (by omega)))
  have hsz4 := hb34.size
  have HO5 := Lib.hid (World.rowIs.of_block HO3.out (hb34.block O (by omega)))
  have HK5 := Lib.hid (World.rowIs.of_block HK3.out (hb34.block KB (by omega)))
  have HI5 := Lib.hid (World.rowIs.of_block HI3.out (hb34.block HB (by omega)))
  clear ho4 hb4 hb34 HR3 HE3 HO3 HK3 HI3 HB3
  generalize hM : w3.heap.size = MB at *
  clear hM hb3
  go_wp2_with (at_builtin; refine wpList_append_own _ rfl (.tmp 26) (.tmp 27) 23 rfl MB 5 i0 (.int .u8 0) 1 1 Try.underlying23 hi hz0 hz1' hz2' rfl (by decide) (.slice M1 n C1) n (bv l) rfl (HO4.out.alloc _) ⟨w4.heap.size, 0, none⟩ 1 1 (bv [128]) rfl rfl ?c1 (bv_one _) ?c3 ?c4 ?c5 ?_)
  case c1 => first | exact new_cells [128] w4 _ | (intro j u hj; simpa [bv] using hj)
  case c3 => unfold maxLen; omega
  case c4 => omega
  case c5 => exact Nat.le_trans hsz4 (al_le w4 _)
  intro v5 w5 ho5 hg5 hnil5
  obtain ⟨M5, C5, rfl⟩ := own_slice' ho5
  have hb45 : Below MB w4 w5 := ((Below.refl MB w4).alloc hsz4 (.cells (bv [128]).toArray 5)).trans (below_grown (Nat.le_trans hsz4 (al_le w4 _)) (HO4.out.alloc _) hg5)
  have HOb := Lib.hid (own_eq ho5 (ys := bv (l ++ 128 :: List.replicate 0 0)) (m := n + 1 + 0) (by simp [bv]) rfl)
  have HRf4 : Hid (Rf w w4 O KB HB MB (sF init)) := Lib.hid ⟨HO5.out, HK5.out.congr (fun i hi => by
      have hk : kc.length = 64 := rfl
      simp [uv, kf, List.getD, hk, hi]), HI5.out.congr (fun i hi => by
      have hk : ic.length = 8 := rfl
      show _ = Value.int .u32 (init.at i)
      rw [← init_at i hi]
      simp [uv, List.getD, hk, hi]), HB4.out, by omega, by omega, by omega, by omega, by omega, hsz4⟩
  have HRf := Lib.hid (HRf4.out.below hb45)
  obtain ⟨z, hz⟩ : ∃ z, z = padN n - 9 := ⟨_, rfl⟩
  have HZs := Lib.hid (show ∀ k, k < z → (n + 1 + k) % 64 ≠ 56 from fun k hk => pad_stop n k (by omega))
  have HZe := Lib.hid (show (n + 1 + z) % 64 = 56 by rw [hz]; exact pad_end n)
  have hz128 : z ≤ 119 := by have := padN_ge n; omega
  have HZ := Lib.hid hz
  clear hz ho5 hg5 hnil5 hb45 HRf4 HO4 HB4 HO5 HK5 HI5
  go_wp2_with fail
  go_loopw [5] (fun s5 wr => ∃ (M : Option Addr) (k c : Nat), s5 = .slice M (n + 1 + k) c ∧ k ≤ z ∧ Hid (wr.ownsRow MB 5 1 (.slice M (n + 1 + k) c) (n + 1 + k) (bv (l ++ 128 :: List.replicate k 0))) ∧ Hid (Rf w wr O KB HB MB (sF init))) (fun s5 _ => match s5 with | .slice _ m _ => n + 1 + z - m | _ => 0)
  case atStart => exact ⟨M5, 0, C5, rfl, Nat.zero_le _, HOb, HRf⟩
  case round =>
    clear HOb HRf
    obtain ⟨M, k, c, rfl, hk, HOb, HRf⟩ := hrel
    by_cases hkz : k < z
    · have hne : (n + 1 + k) % 64 ≠ 56 := HZs.out k hkz
      have hd : (((n + 1 + k : Nat) : Int) % 64 != 56) = true := by simp; omega
      clear hne
      go_wp2_with (at_builtin; refine wpList_append_own _ rfl (.tmp 33) (.tmp 34) 23 rfl MB 5 i0 (.int .u8 0) 1 1 Try.underlying23 hi hz0 hz1' hz2' rfl (by decide) _ (n + 1 + k) _ rfl (HOb.out.alloc _) ⟨wr.heap.size, 0, none⟩ 1 1 (bv [0]) rfl rfl ?c1 (bv_one _) ?c3 ?c4 ?c5 ?_)
      case c1 => first | exact new_cells [0] wr _ | (intro j u hj; simpa [bv] using hj)
      case c3 => unfold maxLen; omega
      case c4 => omega
      case c5 => exact Nat.le_trans HRf.out.sz (al_le wr _)
      intro v6 w6 ho6 hg6 hn6
      obtain ⟨M6, C6, rfl⟩ := own_slice' ho6
      have hb6 : Below MB wr w6 := ((Below.refl MB wr).alloc HRf.out.sz (.cells (bv [0]).toArray 5)).trans (below_grown (Nat.le_trans HRf.out.sz (al_le wr _)) (HOb.out.alloc _) hg6)
      have HOc := Lib.hid (own_eq ho6 (ys := bv (l ++ 128 :: List.replicate (k + 1) 0)) (m := n + 1 + (k + 1)) (by simp [bv, List.replicate_succ']) rfl)
      have HRg := Lib.hid (HRf.out.below hb6)
      clear ho6 hg6 hn6 hb6 HOb HRf
      go_wp2_with fail
      go_roundw
      case rel => exact ⟨M6, k + 1, C6, rfl, by omega, HOc, HRg⟩
      case measure => show n + 1 + z - (n + 1 + k + 1) < n + 1 + z - (n + 1 + k); omega
    · have hd : (((n + 1 + k : Nat) : Int) % 64 != 56) = false := by
        have := HZe.out
        have : k = z := by omega
        simp; omega
      have HOz : Hid (wr.ownsRow MB 5 1 (.slice M (n + 1 + k) c) (n + 1 + k) (bv (l ++ 128 :: List.replicate z 0))) := Lib.hid (by
        have : k = z := by omega
        rw [← this]; exact HOb.out)
      clear HOb
      have HNum := Lib.hid (rnum_any MB (.slice M (n + 1 + k) c) (n + 1 + k) _ (8 * (n : Int)) wr HRf.out.sz HOz.out (by omega) (by omega) (by omega))
      go_wp2_with fail
      refine HNum.out.mono ?_
      rintro e w7 ⟨v7, rfl, ho7, hb7⟩
      obtain ⟨P, hP⟩ : ∃ P, P = l ++ pad n := ⟨_, rfl⟩
      obtain ⟨L, hL⟩ : ∃ L, L = n + padN n := ⟨_, rfl⟩
      have hpn := padN_ge n
      have ho7' := own_eq ho7 (ys := bv P) (m := L) (by
        rw [hP, ← (pad_of l n).resolve_right (fun h => h hn)]
        simp [bv]
        exact HZ.out) (by have := HZ.out; omega)
      have hPr : ∀ i, i < L → 0 ≤ P.getD i 0 ∧ P.getD i 0 ≤ 255 := by
        rw [hP, hL]
        exact bytes_range l n HRd.out.len hn HRd.out.byte
      have hPl : P.length = L := by rw [hP, hL, List.length_append, pad_length, HRd.out.len]
      obtain ⟨g, C7, cur, rfl, hMg, hcur, hLC, hC7, hsz7, htk⟩ : ∃ g cap cur, v7 = .slice (some ⟨g, 0, none⟩) L cap ∧ MB ≤ g ∧ w7.heap[g]? = some (.cells cur 5 (0, 0)) ∧ L ≤ cap ∧ cap ≤ maxLen ∧ cur.size = cap * 1 ∧ cur.toList.take (L * 1) = bv P := by
        rcases ho7'.2 with ⟨-, h⟩ | h
        · omega
        · exact h
      have hgl7 : g < w7.heap.size := by
        rcases Nat.lt_or_ge g w7.heap.size with h | h
        · exact h
        · rw [Array.getElem?_eq_none h] at hcur; simp at hcur
      have hby7 : ∀ i, i < L → w7.cell? ⟨g, i, none⟩ = some (.int .u8 (P.getD i 0)) := fun i hi => by
        rw [World.ownsRow.cellAt ho7' i (by omega)]
        simp [bv, hPl, hi]
      have hL64 : L % 64 = 0 := by rw [hL]; exact hpn.2.2
      have hLb : L ≤ 1000000200 := by omega
      have hLC' : L ≤ C7 := hLC
      have HBk7 : Hid (∀ Z : Array Value, Z.size = 64 → Bk w (w7.alloc (.cells Z 157)) O KB HB MB w7.heap.size g L P (sF init) (fun i => Z.getD i undef)) := Lib.hid (fun Z hz => by
        have h := row_new w7 Z 157
        rw [hz] at h
        have hs7 := hb7.size
        have hs8 := HRf.out.sz
        exact ⟨(HRf.out.below hb7).below ((Below.refl MB w7).alloc (by omega) _), h, fun i hi => by
          rw [Below.cell (((Below.refl w7.heap.size w7).alloc (Nat.le_refl _) _)) (p := ⟨g, i, none⟩) hgl7]; exact hby7 i hi, by omega, hMg, by omega, Nat.lt_trans hgl7 (al_lt w7 _)⟩)
      have HPr := Lib.hid hPr
      have HP := Lib.hid hP
      have HL := Lib.hid hL
      have HPl := Lib.hid hPl
      clear hPr hP hL hPl ho7 ho7' hb7 hcur hsz7 htk hby7 HOz HNum HRf hd hpn hC7 hLC HZ HZe HZs hkz hk hi hz0 hz1' hz2' hz128
      go_upto_region 8 with (fail)
      have HBk := Lib.hid (HBk7.out Z2 (by rw [← HZ2k.out, List.size_toArray, uv_len]; rfl))
      generalize hw8 : w7.alloc (.cells Z2 157) = w8 at *
      clear hw8 HBk7
      generalize w7.heap.size = WB at *
      go_upto_block 2 with (fail)
      refine blocksAll _ hL64 hLb hLC' HPl.out HPr.out HBk.out _ ?_
      intro v7 v8 v9 v10 v11 v12 v13 v14 v15 v16 v17 v18 v19 v42 v43 v44 v45 v46 v47 v48 v49 v50 v51 v52 v53 v54 v55 v56 v57 v58 v59 v60 v61 v62 v63 v64 v65 v66 v67 v68 v69 v70 v71 v72 v73 v74 v75 v76 v77 v78 v79 v80 v81 v82 v83 v84 v85 v86 v87 v88 v89 v90 v91 v92 v93 v94 v95 v96 v97 v98 v99 v100 v101 v102 v103 v104 v105 v106 v107 v108 v109 v110 v111 v112 v113 v114 v115 v116 v117 v118 v119 v120 v121 v122 v123 v124 v125 v126 v127 v128 v129 v130 v131 v132 v133 v134 v135 v136 v137 v138 v139 v140 v141 v142 v143 v144 v145 v146 v147 v148 v149 v150 v151 v152 v153 v154 v155 v156 v157 v158 v159 v160 v161 v162 v163 v164 v165 v166 v167 v168 v169 v170 v171 v172 v173 v174 v175 v176 v177 v178 v179 v180 v181 v182 v183 v184 v185 v186 v187 v188 v189 v190 v191 v192 v193 v194 v195 v196 v197 v198 v199 v200 v201 v202 v203 v204 v205 v206 v207 v208 v209 v210 v211 v212 v213 v214 v215 v216 v217 v218 v219 v220 v221 v222 v223 v224 v225 v226 v227 v228 v229 v230 v231 v232 v233 v234 v235 v236 v237 v238 v239 v240 v241 v242 v243 v244 v245 v246 v247 v248 v249 v250 v251 v252 v253 v254 v255 v256 v257 v258 v259 fW1 w9 hb9
      have HBk9 := Lib.hid hb9
      have hs9 := hb9.rf.sz
      have HB9 := Lib.hid (hb9.rf.bel)
      have HLk : Hid (Lk w (w9.alloc (.cells Z1 37)) O HB w9.heap.size (run P) (fun _ => .int .u8 0)) := Lib.hid (by
        have hHl := hb9.rf.rowH.lt
        have hOl := hb9.rf.rowO.lt
        refine ⟨World.rowIs.alloc hb9.rf.rowO _, World.rowIs.alloc hb9.rf.rowH _, ?_, hb9.rf.bel.alloc (by omega) _, by omega, by omega⟩
        rw [← HZ1k.out]
        exact row_zeros w9 32 _)
      clear hb9 HBk HBk9 hs9
      go_upto_region 36 with (fail)
      change Code.wp _ _ _ _ (w9.alloc (.cells Z1 37)) 
      generalize w9.alloc (.cells Z1 37) = w10 at *
      generalize w9.heap.size = UB at *
      go_upto_block 12 with (fail)
      refine out32 _ (run_ok P) HLk.out _ ?_
      intro v21 v260 v261 v262 v263 v264 v265 v266 v267 v268 v269 v270 v271 v272 v273 v274 v275 G w11 h11
      obtain ⟨hgd, hlk⟩ := h11
      have hdl := dig_length (run P)
      have HRg : Hid (w11.rangeAt UB 0 (bv (dig (run P)))) := Lib.hid (fun j v hj => by
        have hl := (List.getElem?_eq_some_iff.1 hj).1
        rw [bv, List.length_map, hdl] at hl
        rw [Nat.zero_add, hlk.rowU.cell hl, hgd j hl, ← hj]
        simp [bv, hdl, hl])
      have hbl : (bv (dig (run P))).length = 32 := by rw [bv, List.length_map, hdl]
      have HSz : Hid ((Try.prog.info? 37).map (·.size) = some (bv (dig (run P))).length) := Lib.hid (by rw [hbl]; kernel_rfl)
      have HSz2 : Hid ((Try.prog.info? 37).map (·.size) = some (bv (dig (run P))).toArray.size) := Lib.hid (by rw [List.size_toArray]; exact HSz.out)
      have HOne := Lib.hid (all_oneCell_toArray (bv_one (dig (run P))))
      have HTh : Hid (w11.there O 0 (bv (dig (run P))).toArray.size) := Lib.hid (fun j hj => by
        rw [List.size_toArray, hbl] at hj
        rw [Nat.zero_add]
        exact ⟨by rw [hlk.rowO.cell hj]; rfl, hlk.rowO.frozen _⟩)
      have HSt := Lib.hid (row_stored hlk.rowO (bv (dig (run P))) hbl)
      have HBf := Lib.hid (below_setCells O (Nat.le_refl _) (bv (dig (run P))) 0 w11 hlk.bel)
      have HDg : Hid (bv (dig (run P)) = bv (sha l)) := Lib.hid (by rw [HP.out, sha, HRd.out.len])
      clear hgd hlk hdl hbl HLk HB9
      generalize bv (dig (run P)) = DL at *
      go_wp2_with (first
        | (refine wpList_load_mid rfl _ _ rfl UB 0 rfl DL _ HRg.out Try.underlying37 rfl HSz.out ?_)
        | (refine wpList_store_mid rfl _ _ _ rfl O 0 DL.toArray rfl rfl HTh.out HSz2.out HOne.out ?_))
      refine bodyPost_ret (results_cell_row rfl _ _ O _ _ _ _ rfl HSt.out Try.underlying37 rfl HSz2.out) rfl ?_
      refine ⟨by rw [HDg.out], ?_⟩
      rw [HO.out]
      exact HBf.out
end Go.Proofs.Ytmcmapgllaopmaa.Sm
end

section
/- Id of any object, both programs'. -/
namespace Go.Proofs.Ytmcmapgllaopmaa.Cd
open Go.RowKit
set_option linter.unusedVariables false

theorem sm_bv (l : List Int) : Sm.bv l = bv l := rfl
theorem RdB.sm {w : World} {A : Option Addr} {n C : Nat} {l : List Int} (h : RdB w A n C l) : Sm.RdB w A n C l := ⟨h.len, h.cap, h.max, h.big, h.none, h.byte, h.cell⟩
theorem RdB.rowOk {w : World} {A : Option Addr} {n C : Nat} {l : List Int} (h : RdB w A n C l) (H s : Nat) (hs : s ≠ H) (hsz : s < w.heap.size) (hH : ∀ x, A = some x → 0 < n → x.block ≠ H) : Sm.RowOk w H A n C l := by
  refine ⟨h.len, h.cap, h.max, h.byte, ?_⟩
  by_cases h0 : 0 < n
  · obtain ⟨g, o, hA, hg, hc⟩ := h.at h0
    exact ⟨g, o, fun _ => hA, hH _ hA h0, hg, hc⟩
  · exact ⟨s, 0, fun h' => absurd h' h0, hs, hsz, fun i hi => absurd hi (by omega)⟩

/-- sum.Of of one row -/
theorem of_one (A : Option Addr) (n C : Nat) (l : List Int) (w : World) (h : RdB w A n C l) (hn : n ≤ 1000000000) :
    Calls Try.prog 59 #[.slice (some ⟨w.heap.size, 0, none⟩) 1 1] (w.alloc (.cells #[.slice A n C] 23)) fun e w' => e = .returned (.agg (bv (Sm.sha l)).toArray) ∧ Below w.heap.size w w' := by
  have hb := (Below.refl w.heap.size w).alloc (Nat.le_refl _) (.cells #[.slice A n C] 23)
  have hs := al_lt w (.cells #[.slice A n C] 23)
  have hc : (w.alloc (.cells #[.slice A n C] 23)).cell? ⟨w.heap.size, 0, none⟩ = some (.slice A n C) := by
    rw [World.cell?_alloc_new]; rfl
  have hr := (h.below hb).rowOk (w.alloc (.cells #[.slice A n C] 23)).heap.size w.heap.size (by omega) hs (fun x hx h0 => by
    obtain ⟨h1, -⟩ := h.cell x hx
    have := h1 h0
    omega)
  have hl1 : Sm.rowsTo (fun _ => l) 1 = l := by simp [Sm.rowsTo]
  refine (Sm.of_any (some ⟨w.heap.size, 0, none⟩) w.heap.size 0 1 1 (fun _ => A) (fun _ => n) (fun _ => C) (fun _ => l) (w.alloc (.cells #[.slice A n C] 23)) (by omega) (by omega) (by omega) (fun _ => rfl) (fun _ => hs) (fun i hi => by
    rw [show 0 + i = 0 by omega]; exact hc) (fun i hi => hr) (fun k hk => by
    rcases (show k = 0 ∨ k = 1 by omega) with rfl | rfl
    · simp [Sm.rowsTo]
    · rw [hl1, h.len]; omega)).mono fun e w' ⟨he, hb'⟩ => ?_
  rw [hl1] at he
  exact ⟨he, hb.trans (hb'.mono (by omega))⟩
theorem sha_len (l : List Int) : (Sm.sha l).length = 32 := Sm.dig_length _

theorem Fin.mkN {w0 w : World} {B O n : Nat} {t : TypeId} {D : List Value} {f : Nat → Value} (hi : (Try.prog.info? t).map (·.size) = some n) (hl : D.length = n) (h1 : ∀ v ∈ D, v.oneCell' = true) (hr : w.rowIs O t n f) (hb : Below B w0 w) (hO : B ≤ O) : Fin w0 B w O t D :=
  ⟨fun j hj => by
    rw [List.size_toArray, hl] at hj
    rw [Nat.zero_add]
    exact ⟨by rw [hr.cell hj]; rfl, hr.frozen _⟩, by rw [List.size_toArray, hl]; exact hi, all_oneCell_toArray h1, row_stored hr D hl, below_cells hO D 0 w hb⟩
theorem infoId : (Try.prog.info? 37).map (·.size) = some 32 := by kernel_rfl

/-- an object's bytes -/
def obB (k : Int) (l : List Int) (L : Nat) : List Int := ckL k l L :: be 4 (L : Int) ++ l
theorem be4_byte (n : Int) : ∀ x ∈ be 4 n, 0 ≤ x ∧ x ≤ 255 := by
  intro x hx
  simp only [be, List.mem_cons, List.not_mem_nil, or_false] at hx
  omega
theorem byte_mem {z : List Int} {L : Nat} (hl : z.length = L) (hz : ∀ i, i < L → 0 ≤ z.getD i 0 ∧ z.getD i 0 ≤ 255) : ∀ x ∈ z, 0 ≤ x ∧ x ≤ 255 := by
  intro x hx
  obtain ⟨i, hi, rfl⟩ := List.getElem_of_mem hx
  have := hz i (by omega)
  simpa [List.getD, hi] using this
theorem byte_getD {z : List Int} (h : ∀ x ∈ z, 0 ≤ x ∧ x ≤ 255) (i : Nat) (hi : i < z.length) : 0 ≤ z.getD i 0 ∧ z.getD i 0 ≤ 255 := by
  rw [List.getD_eq_getElem?_getD, List.getElem?_eq_getElem hi]
  exact h _ (List.getElem_mem hi)
theorem obB_mem (k : Int) (L : Nat) (l : List Int) (hl : l.length = L) (hb : ∀ i, i < L → 0 ≤ l.getD i 0 ∧ l.getD i 0 ≤ 255) : ∀ x ∈ obB k l L, 0 ≤ x ∧ x ≤ 255 := by
  intro x hx
  unfold obB at hx
  rw [List.cons_append] at hx
  rcases List.mem_cons.1 hx with rfl | hx
  · exact ckL_byte k l L
  · rcases List.mem_append.1 hx with h | h
    · exact be4_byte _ x h
    · exact byte_mem hl hb x h
theorem obB_len (k : Int) (L : Nat) (l : List Int) (hl : l.length = L) : (obB k l L).length = 5 + L := by simp [obB, be_length, hl]; omega
theorem obB_byte (k : Int) (L : Nat) (l : List Int) (hl : l.length = L) (hb : ∀ i, i < L → 0 ≤ l.getD i 0 ∧ l.getD i 0 ≤ 255) : ∀ i, i < 5 + L → 0 ≤ (obB k l L).getD i 0 ∧ (obB k l L).getD i 0 ≤ 255 :=
  fun i hi => byte_getD (obB_mem k L l hl hb) i (by rw [obB_len k L l hl]; exact hi)

/-- what Id hands back -/
def IdRet (k : Int) (l : List Int) (L : Nat) (w : World) (e : Ending) (w' : World) : Prop :=
  Below w.heap.size w w' ∧
  ((ckE k l L ≠ 0 ∧ e = .returned (.tuple #[.agg (bv (List.replicate 32 0)).toArray, .int .i64 (ckE k l L)])) ∨
   (ckE k l L = 0 ∧ e = .returned (.tuple #[.agg (bv (Sm.sha (obB k l L))).toArray, .int .i64 0])))

set_option maxRecDepth 100000 in
set_option maxHeartbeats 2000000 in
theorem objId_any (k : Int) (A : Option Addr) (L C : Nat) (l : List Int) (w : World) (h : RdB w A L C l) (hL : L ≤ 900000000) :
    Calls Try.prog 24 #[.agg #[.int .i64 k, .slice A L C]] w (IdRet k l L w) := by
  have hbx := (Below.refl w.heap.size w).alloc (Nat.le_refl _) (.cells #[.int .i64 k, .slice A L C] 50)
  have hs := al_lt w (.cells #[.int .i64 k, .slice A L C] 50)
  have HZl : Hid ((List.replicate 32 (0 : Int)).length = 32) := Lib.hid rfl
  have hz1 := zero32
  have hc0 : ∀ o, ((w.alloc (.cells #[.int .i64 k, .slice A L C] 50)).alloc o).cell? ⟨w.heap.size, 0, none⟩ = some (.int .i64 k) := al_keep (al_cell w #[.int .i64 k, .slice A L C] 50 0 _ rfl)
  have hc1 : ∀ o, ((w.alloc (.cells #[.int .i64 k, .slice A L C] 50)).alloc o).cell? ⟨w.heap.size, 1, none⟩ = some (.slice A L C) := al_keep (al_cell w #[.int .i64 k, .slice A L C] 50 1 _ rfl)
  have HO0 : Hid (((w.alloc (.cells #[.int .i64 k, .slice A L C] 50)).alloc (.cells (bv (List.replicate 32 0)).toArray 37)).rowIs (w.alloc (.cells #[.int .i64 k, .slice A L C] 50)).heap.size 37 32 (fun _ => .int .u8 0)) := Lib.hid (row_zeros _ 32 _)
  have HB1 := Lib.hid (hbx.alloc (Nat.le_of_lt hs) (.cells (bv (List.replicate 32 0)).toArray 37))
  have HRd1 := Lib.hid (h.below HB1.out)
  have HL := Lib.hid h.len
  have HBy := Lib.hid h.byte
  have hOw : w.heap.size ≤ (w.alloc (.cells #[.int .i64 k, .slice A L C] 50)).heap.size := Nat.le_of_lt hs
  clear h hbx
  generalize hZ1 : (bv (List.replicate 32 0)).toArray = Z1 at *
  have HZ1 := Lib.hid hZ1
  clear hZ1
  go_enter Try.func24, Try.ntmps24
  go_upto_region 1 with (fail)
  have hX1 : (w.alloc (.cells #[.int .i64 k, .slice A L C] 50)).heap.size = w.heap.size + 1 := by show (w.heap.push _).size = _; simp
  rw [hX1] at HO0 hOw
  have hc0' := hc0 (.cells Z1 37)
  have hc1' := hc1 (.cells Z1 37)
  clear hX1 hs hc0 hc1
  generalize (w.alloc (.cells #[.int .i64 k, .slice A L C] 50)).alloc (.cells Z1 37) = w1 at *
  obtain ⟨O, hO⟩ : ∃ O, O = w.heap.size + 1 := ⟨_, rfl⟩
  rw [← hO] at HO0 hOw ⊢
  clear hO
  have HEn := Lib.hid (encodeObj_any k A L C l w1 HRd1.out (by omega))
  have hs1 := HO0.out.lt
  have HB1b := HB1
  go_wp2_with fail
  refine HEn.out.mono ?_
  rintro e w2 ⟨hb, hr⟩
  have HB2 := Lib.hid (HB1.out.trans (hb.mono HB1.out.size))
  have HO2 := Lib.hid (World.rowIs.of_block HO0.out (hb.block O hs1))
  rcases hr with ⟨hne, rfl⟩ | ⟨he, A', C', rfl, ho⟩
  · have hd : (ckE k l L != 0) = true := by simp [hne]
    have HNe := Lib.hid hne
    have HFz := Lib.hid (Fin.mkN infoId (D := bv (List.replicate 32 0)) (by rw [bv_len]; rfl) (bv_one _) HO2.out HB2.out hOw)
    clear hb hne HEn HB1 HO0
    obtain ⟨E, hE⟩ : ∃ E, E = ckE k l L := ⟨_, rfl⟩
    rw [← hE] at hd ⊢
    have HE := Lib.hid hE
    clear hE
    go_wp2_with (refine wpList_store_mid rfl _ _ _ rfl O 0 (bv (List.replicate 32 0)).toArray rfl (show _ = _ from congrArg Value.agg HZ1.out.symm) HFz.out.there HFz.out.size HFz.out.one ?_)
    refine bodyPost_ret (results_cell2 rfl _ _ O _ _ _ _ rfl HFz.out.stored Try.underlying37 rfl HFz.out.size (.int .i64 E) rfl) rfl ?_
    exact ⟨HFz.out.bel, .inl ⟨HNe.out, by rw [HE.out]⟩⟩
  · have hd : ((0 : Int) != 0) = false := rfl
    have HE := Lib.hid he
    have HRo := Lib.hid (RdB.of_own2 ho (by omega) (obB_byte k L l HL.out HBy.out))
    have HOf := Lib.hid (of_one A' (5 + L) C' (obB k l L) w2 HRo.out (by omega))
    clear hb he HEn HB1 HO0 ho
    go_wp2_with fail
    refine HOf.out.mono ?_
    rintro e w3 ⟨rfl, hb3⟩
    have HB3 := Lib.hid (HB2.out.trans (hb3.mono HB2.out.size))
    have HO3 := Lib.hid (World.rowIs.of_block HO2.out (hb3.block O HO2.out.lt))
    have HFz := Lib.hid (Fin.mkN infoId (D := bv (Sm.sha (obB k l L))) (by rw [bv_len]; exact sha_len _) (bv_one _) HO3.out HB3.out hOw)
    clear hb3 HOf
    obtain ⟨D, hD⟩ : ∃ D, D = bv (Sm.sha (obB k l L)) := ⟨_, rfl⟩
    rw [← hD] at HFz ⊢
    have HD := Lib.hid hD
    clear hD
    go_wp2_with (refine wpList_store_mid rfl _ _ _ rfl O 0 D.toArray rfl rfl HFz.out.there HFz.out.size HFz.out.one ?_)
    refine bodyPost_ret (results_cell2 rfl _ _ O _ _ _ _ rfl HFz.out.stored Try.underlying37 rfl HFz.out.size (.int .i64 0) rfl) rfl ?_
    exact ⟨HFz.out.bel, .inr ⟨HE.out, by rw [HD.out]⟩⟩

set_option maxRecDepth 100000 in
set_option maxHeartbeats 2000000 in
theorem robjId_any (k : Int) (A : Option Addr) (L C : Nat) (l : List Int) (w : World) (h : RdB w A L C l) (hL : L ≤ 900000000) :
    Calls Try.prog 25 #[.agg #[.int .i64 k, .slice A L C]] w (IdRet k l L w) := by
  have hbx := (Below.refl w.heap.size w).alloc (Nat.le_refl _) (.cells #[.int .i64 k, .slice A L C] 50)
  have hs := al_lt w (.cells #[.int .i64 k, .slice A L C] 50)
  have HZl : Hid ((List.replicate 32 (0 : Int)).length = 32) := Lib.hid rfl
  have hz1 := zero32
  have hc0 : ∀ o, ((w.alloc (.cells #[.int .i64 k, .slice A L C] 50)).alloc o).cell? ⟨w.heap.size, 0, none⟩ = some (.int .i64 k) := al_keep (al_cell w #[.int .i64 k, .slice A L C] 50 0 _ rfl)
  have hc1 : ∀ o, ((w.alloc (.cells #[.int .i64 k, .slice A L C] 50)).alloc o).cell? ⟨w.heap.size, 1, none⟩ = some (.slice A L C) := al_keep (al_cell w #[.int .i64 k, .slice A L C] 50 1 _ rfl)
  have HO0 : Hid (((w.alloc (.cells #[.int .i64 k, .slice A L C] 50)).alloc (.cells (bv (List.replicate 32 0)).toArray 37)).rowIs (w.alloc (.cells #[.int .i64 k, .slice A L C] 50)).heap.size 37 32 (fun _ => .int .u8 0)) := Lib.hid (row_zeros _ 32 _)
  have HB1 := Lib.hid (hbx.alloc (Nat.le_of_lt hs) (.cells (bv (List.replicate 32 0)).toArray 37))
  have HRd1 := Lib.hid (h.below HB1.out)
  have HL := Lib.hid h.len
  have HBy := Lib.hid h.byte
  have hOw : w.heap.size ≤ (w.alloc (.cells #[.int .i64 k, .slice A L C] 50)).heap.size := Nat.le_of_lt hs
  clear h hbx
  generalize hZ1 : (bv (List.replicate 32 0)).toArray = Z1 at *
  have HZ1 := Lib.hid hZ1
  clear hZ1
  go_enter Try.func25, Try.ntmps25
  go_upto_region 1 with (fail)
  have hX1 : (w.alloc (.cells #[.int .i64 k, .slice A L C] 50)).heap.size = w.heap.size + 1 := by show (w.heap.push _).size = _; simp
  rw [hX1] at HO0 hOw
  have hc0' := hc0 (.cells Z1 37)
  have hc1' := hc1 (.cells Z1 37)
  clear hX1 hs hc0 hc1
  generalize (w.alloc (.cells #[.int .i64 k, .slice A L C] 50)).alloc (.cells Z1 37) = w1 at *
  obtain ⟨O, hO⟩ : ∃ O, O = w.heap.size + 1 := ⟨_, rfl⟩
  rw [← hO] at HO0 hOw ⊢
  clear hO
  have HEn := Lib.hid (rencodeObj_any k A L C l w1 HRd1.out (by omega))
  have hs1 := HO0.out.lt
  have HB1b := HB1
  go_wp2_with fail
  refine HEn.out.mono ?_
  rintro e w2 ⟨hb, hr⟩
  have HB2 := Lib.hid (HB1.out.trans (hb.mono HB1.out.size))
  have HO2 := Lib.hid (World.rowIs.of_block HO0.out (hb.block O hs1))
  rcases hr with ⟨hne, rfl⟩ | ⟨he, A', C', rfl, ho⟩
  · have hd : (ckE k l L != 0) = true := by simp [hne]
    have HNe := Lib.hid hne
    have HFz := Lib.hid (Fin.mkN infoId (D := bv (List.replicate 32 0)) (by rw [bv_len]; rfl) (bv_one _) HO2.out HB2.out hOw)
    clear hb hne HEn HB1 HO0
    obtain ⟨E, hE⟩ : ∃ E, E = ckE k l L := ⟨_, rfl⟩
    rw [← hE] at hd ⊢
    have HE := Lib.hid hE
    clear hE
    go_wp2_with (refine wpList_store_mid rfl _ _ _ rfl O 0 (bv (List.replicate 32 0)).toArray rfl (show _ = _ from congrArg Value.agg HZ1.out.symm) HFz.out.there HFz.out.size HFz.out.one ?_)
    refine bodyPost_ret (results_cell2 rfl _ _ O _ _ _ _ rfl HFz.out.stored Try.underlying37 rfl HFz.out.size (.int .i64 E) rfl) rfl ?_
    exact ⟨HFz.out.bel, .inl ⟨HNe.out, by rw [HE.out]⟩⟩
  · have hd : ((0 : Int) != 0) = false := rfl
    have HE := Lib.hid he
    have HRo := Lib.hid (RdB.of_own2 ho (by omega) (obB_byte k L l HL.out HBy.out))
    have HOf : Hid (Calls Try.prog 60 #[.slice A' (5 + L) C'] w2 fun e w' => e = .returned (.agg (bv (Sm.sha (obB k l L))).toArray) ∧ Below w2.heap.size w2 w') := Lib.hid (Sm.rof_any A' (5 + L) C' (obB k l L) w2 HRo.out.sm (by omega))
    clear hb he HEn HB1 HO0 ho
    go_wp2_with fail
    refine HOf.out.mono ?_
    rintro e w3 ⟨rfl, hb3⟩
    have HB3 := Lib.hid (HB2.out.trans (hb3.mono HB2.out.size))
    have HO3 := Lib.hid (World.rowIs.of_block HO2.out (hb3.block O HO2.out.lt))
    have HFz := Lib.hid (Fin.mkN infoId (D := bv (Sm.sha (obB k l L))) (by rw [bv_len]; exact sha_len _) (bv_one _) HO3.out HB3.out hOw)
    clear hb3 HOf
    obtain ⟨D, hD⟩ : ∃ D, D = bv (Sm.sha (obB k l L)) := ⟨_, rfl⟩
    rw [← hD] at HFz ⊢
    have HD := Lib.hid hD
    clear hD
    go_wp2_with (refine wpList_store_mid rfl _ _ _ rfl O 0 D.toArray rfl rfl HFz.out.there HFz.out.size HFz.out.one ?_)
    refine bodyPost_ret (results_cell2 rfl _ _ O _ _ _ _ rfl HFz.out.stored Try.underlying37 rfl HFz.out.size (.int .i64 0) rfl) rfl ?_
    exact ⟨HFz.out.bel, .inr ⟨HE.out, by rw [HD.out]⟩⟩
end Go.Proofs.Ytmcmapgllaopmaa.Cd
end

section
/- append of bytes that are read to a row of one's own: blocks of other types are kept. -/
namespace Go.Proofs.Ytmcmapgllaopmaa.Cd
open Go.RowKit
set_option linter.unusedVariables false

theorem run_append_k (w : World) (t : TypeId) (B : Nat) (v : Value) (n : Nat) (d : List Int) (hown : w.ownsRow B 5 1 v n (bv d))
    (A : Option Addr) (m c : Nat) (l : List Int) (hsl : RdB w A m c l) (hbytes : (n + m) * 1 ≤ 140737488355328) (hbase : B ≤ w.heap.size) :
    ∃ A' C' w', (Builtin.append_ #[23, 23] t #[v, .slice A m c]).run Try.prog w = .ok (.slice A' (n + m) C') w' ∧ w'.ownsRow B 5 1 (.slice A' (n + m) C') (n + m) (bv (d ++ l)) ∧ Below B w w' ∧ KeptT w w' := by
  obtain ⟨i0, hi, hz0, hz1, hz2⟩ := info_parts info5
  cases A with
  | none =>
    have hc := hsl.none rfl
    have hm : m = 0 := by have := hsl.cap; omega
    subst hm hc
    obtain rfl : l = [] := List.eq_nil_of_length_eq_zero hsl.len
    obtain ⟨A', C', rfl⟩ := own_slice' hown
    refine ⟨A', C', w, run_append_owned_none (P := Try.prog) w B 23 t 5 i0 1 Try.underlying23 hi _ _ _ hown, ?_, Below.refl B w, KeptT.refl w⟩
    rw [List.append_nil]
    exact hown
  | some y =>
    obtain ⟨-, hcc⟩ := hsl.cell y rfl
    have hll := hsl.len
    have hnw : ∀ j u, (bv l)[j]? = some u → w.cell? (y.add j) = some u := by
      intro j u hj
      have hj1 := (List.getElem?_eq_some_iff.1 hj).1
      rw [bv, List.length_map, hll] at hj1
      rw [hcc j hj1, ← hj]
      simp [bv, hll, hj1]
    obtain ⟨v', w', hr, h2, h3, h4⟩ := run_append_own (P := Try.prog) w B 23 t 5 i0 (.int .u8 0) 1 1 Try.underlying23 hi hz0 hz1 hz2 rfl (by decide) v n (bv d) hown y m c (bv l) (by rw [bv, List.length_map, hll]; omega) hnw (bv_one l) (by unfold maxLen; omega) hbytes hbase
    obtain ⟨A', C', rfl⟩ := own_slice' h2
    exact ⟨A', C', w', hr, by rw [show bv (d ++ l) = bv d ++ bv l from by simp [bv]]; exact h2, below_grown hbase hown h3, KeptT.own hown h3⟩

theorem step_append_k (w : World) {ops : Array Oper} {o : Oper} {a : Act} {K : Act → World → Prop} {Q : Exit → Act → World → Prop} {E : Prop} (hgd : o.guard = none) (s x : Operand)
    (ho : o.op = .call { callee := .builtin .append, args := #[s, x], argTypes := #[23, 23] })
    (B : Nat) (v : Value) (n : Nat) (d : List Int) (hs : a.eval s = v) (hown : w.ownsRow B 5 1 v n (bv d))
    (A : Option Addr) (m c : Nat) (l : List Int) (hx : a.eval x = .slice A m c) (hsl : RdB w A m c l)
    (hbytes : (n + m) * 1 ≤ 140737488355328) (hbase : B ≤ w.heap.size)
    (h : ∀ A' C' w', w'.ownsRow B 5 1 (.slice A' (n + m) C') (n + m) (bv (d ++ l)) → Below B w w' → KeptT w w' → K (a.put o.dst (.slice A' (n + m) C')) w') :
    if Region.wanted o (yielded ops a.tmps) = true then Oper.wp Try.prog o a w K Q else E := by
  have hw : Region.wanted o (yielded ops a.tmps) = true := by simp [Region.wanted, hgd]
  rw [if_pos hw]
  obtain ⟨A', C', w', hr, h2, h3, h4⟩ := run_append_k w o.type B v n d hown A m c l hsl hbytes hbase
  unfold Oper.wp execOp
  simp only [ho, resolve, invoke, builtin, Sem.run_bind, Sem.run_pure, Result.andThen_ok, List.map_toArray, List.map_cons, List.map_nil, hs, hx, hr]
  exact h A' C' w' h2 h3 h4

theorem wpList_append_k (w : World) {ops : Array Oper} {rest : List Oper} {o : Oper} {a : Act} {Q : Exit → Act → World → Prop} (hgd : o.guard = none) (s x : Operand)
    (ho : o.op = .call { callee := .builtin .append, args := #[s, x], argTypes := #[23, 23] })
    (B : Nat) (v : Value) (n : Nat) (d : List Int) (hs : a.eval s = v) (hown : w.ownsRow B 5 1 v n (bv d))
    (A : Option Addr) (m c : Nat) (l : List Int) (hx : a.eval x = .slice A m c) (hsl : RdB w A m c l)
    (hbytes : (n + m) * 1 ≤ 140737488355328) (hbase : B ≤ w.heap.size)
    (h : ∀ A' C' w', w'.ownsRow B 5 1 (.slice A' (n + m) C') (n + m) (bv (d ++ l)) → Below B w w' → KeptT w w' → wpList Try.prog ops Q rest (a.put o.dst (.slice A' (n + m) C')) w') :
    wpList Try.prog ops Q (o :: rest) a w := by
  refine wpList_plain hgd fun K hK => ?_
  obtain ⟨A', C', w', hr, h2, h3, h4⟩ := run_append_k w o.type B v n d hown A m c l hsl hbytes hbase
  unfold Oper.wp execOp
  simp only [ho, resolve, invoke, builtin, Sem.run_bind, Sem.run_pure, Result.andThen_ok, List.map_toArray, List.map_cons, List.map_nil, hs, hx, hr]
  exact hK _ _ (h A' C' w' h2 h3 h4)
end Go.Proofs.Ytmcmapgllaopmaa.Cd
end

section
/- The walk of CodecObjs. -/
namespace Go.Proofs.Ytmcmapgllaopmaa.Cd
open Go.RowKit
set_option linter.unusedVariables false
/-- an object's two cells -/
def obF (k : Int) (A : Option Addr) (L C : Nat) : Nat → Value := fun i => (#[.int .i64 k, .slice A L C] : Array Value).getD i undef

theorem own_ne_row {w : World} {B n m M : Nat} {v : Value} {xs : List Value} {t : TypeId} {f : Nat → Value} (h : w.ownsRow B 5 1 v n xs) (hr : w.rowIs M t m f) (ht : t ≠ 5) : v.ownBlock ≠ some M := by
  intro e
  obtain ⟨c, hb, -⟩ := hr
  rcases h.2 with ⟨rfl, -⟩ | ⟨g, cap, cur, rfl, -, hh, -⟩
  · cases e
  · obtain rfl : g = M := by simpa [Value.ownBlock] using e
    rw [hb] at hh
    simp only [Option.some.injEq, Obj.cells.injEq] at hh
    exact ht hh.2.1
theorem own_lit0' (w : World) : w.ownsRow w.heap.size 5 1 (.slice none 0 0) 0 (bv []) := own_none' w _

/-- a value of many cells laid in a block of its own -/
theorem lay_new (w : World) (t : TypeId) (n : Nat) (Z : Array Value) (D : List Value) (hi : (Try.prog.info? t).map (·.size) = some n) (hZ : Z.size = n) (hl : D.length = n) (h1 : ∀ v ∈ D, v.oneCell' = true) :
    Fin w w.heap.size (w.alloc (.cells Z t)) w.heap.size t D ∧ ((w.alloc (.cells Z t)).setCells w.heap.size 0 D).rangeAt w.heap.size 0 D := by
  have hr := row_new w Z t
  rw [hZ] at hr
  have hf := Fin.mkN (f := fun i => Z.getD i undef) hi hl h1 hr ((Below.refl w.heap.size w).alloc (Nat.le_refl _) (.cells Z t)) (Nat.le_refl _)
  exact ⟨hf, World.rangeAt_setCells_same _ _ _ _ (by have := hf.there; rwa [List.size_toArray] at this)⟩
/-- an object's bytes, none if it may not be -/
def eoB (k : Int) (l : List Int) (L : Nat) : List Int := if ckE k l L = 0 then obB k l L else []
theorem EoRet.flat {k : Int} {l : List Int} {L : Nat} {w w' : World} {e : Ending} (h : EoRet k l L w e w') : Below w.heap.size w w' ∧ ∃ A n C, e = .returned (.tuple #[.slice A n C, .int .i64 (ckE k l L)]) ∧ w'.ownsRow w.heap.size 5 1 (.slice A n C) n (bv (eoB k l L)) := by
  obtain ⟨hb, ⟨h0, rfl⟩ | ⟨h0, A, C, rfl, ho⟩⟩ := h
  · exact ⟨hb, none, 0, 0, rfl, by rw [eoB, if_neg h0]; exact own_none' w' _⟩
  · exact ⟨hb, A, 5 + L, C, by rw [h0], by rw [eoB, if_pos h0]; exact ho⟩
/-- an object's Id, noughts if it may not be -/
def idB (k : Int) (l : List Int) (L : Nat) : List Int := if ckE k l L = 0 then Sm.sha (obB k l L) else List.replicate 32 0
theorem idB_len (k : Int) (l : List Int) (L : Nat) : (idB k l L).length = 32 := by
  unfold idB
  split
  · exact sha_len _
  · simp
theorem IdRet.flat {k : Int} {l : List Int} {L : Nat} {w w' : World} {e : Ending} (h : IdRet k l L w e w') : Below w.heap.size w w' ∧ e = .returned (.tuple #[.agg (bv (idB k l L)).toArray, .int .i64 (ckE k l L)]) := by
  obtain ⟨hb, ⟨h0, rfl⟩ | ⟨h0, rfl⟩⟩ := h
  · exact ⟨hb, by rw [idB, if_neg h0]⟩
  · exact ⟨hb, by rw [idB, if_pos h0, h0]⟩
def poB (l : List Int) (L : Nat) : List Int := if poE l L = 0 then l.drop 5 else []
def poKd (l : List Int) (L : Nat) : Int := if poE l L = 0 then poK (l.getD 0 0) else 0
theorem PoRet.flat {l : List Int} {L : Nat} {w w' : World} {e : Ending} (h : PoRet l L w e w') : Below w.heap.size w w' ∧ ∃ A n C, e = .returned (.tuple #[.agg [.int .i64 (poKd l L), .slice A n C].toArray, .int .i64 (poE l L)]) ∧ w'.ownsRow w.heap.size 5 1 (.slice A n C) n (bv (poB l L)) := by
  obtain ⟨hb, ⟨h0, rfl⟩ | ⟨h0, A, C, rfl, ho⟩⟩ := h
  · exact ⟨hb, none, 0, 0, by rw [poKd, if_neg h0]; rfl, by rw [poB, if_neg h0]; exact own_none' w' _⟩
  · exact ⟨hb, A, L - 5, C, by rw [poKd, if_pos h0, h0], by rw [poB, if_pos h0]; exact ho⟩
theorem infoObj : (Try.prog.info? 50).map (·.size) = some 2 := by kernel_rfl
theorem two_one {k : Int} {A : Option Addr} {n C : Nat} : ∀ v ∈ ([.int .i64 k, .slice A n C] : List Value), v.oneCell' = true := by
  intro v hv
  simp only [List.mem_cons, List.not_mem_nil, or_false] at hv
  rcases hv with rfl | rfl <;> rfl

set_option maxRecDepth 100000 in
set_option maxHeartbeats 2000000 in
theorem walk_objs (w : World) (o0 : Int) (y0 : (Lit.int .i64 o0).wf = true) (a0 : Option Addr) (len0 cap0 : Nat) (z0 : List Int) (w0 : Fr.IsInts .u8 1 w a0 len0 cap0 z0) (a1 : Option Addr) (len1 cap1 : Nat) (z1 : List Int) (w1 : Fr.IsInts .u8 1 w a1 len1 cap1 z1) :
    Calls Try.prog 5 #[.agg #[.int .i64 o0, .slice a0 len0 cap0], .slice a1 len1 cap1] w fun e w' => e = .returned (.bool true) ∧ Below w.heap.size w w' := by
  have hb0 := (Below.refl w.heap.size w).alloc (Nat.le_refl _) (.cells #[.int .i64 o0, .slice a0 len0 cap0] 50)
  have HK := Lib.hid (Cd.known_any (w.alloc (.cells #[.int .i64 o0, .slice a0 len0 cap0] 50)))
  have HR0 := Lib.hid ((Cd.rd_of_ints w0).below hb0)
  have HR1 := Lib.hid ((Cd.rd_of_ints w1).below hb0)
  have HB0 := Lib.hid hb0
  have HP0 : Hid ((w.alloc (.cells #[.int .i64 o0, .slice a0 len0 cap0] 50)).rowIs w.heap.size 50 2 (obF o0 a0 len0 cap0)) := Lib.hid (row_new w #[.int .i64 o0, .slice a0 len0 cap0] 50)
  have hs := al_lt w (.cells #[.int .i64 o0, .slice a0 len0 cap0] 50)
  have hbig0 := HR0.out.big
  have hbig1 := HR1.out.big
  clear hb0 w0 w1 y0
  go_enter Try.func5, Try.ntmps5
  go_upto_region 1 with (fail)
  generalize w.alloc (.cells #[.int .i64 o0, .slice a0 len0 cap0] 50) = wA at *
  obtain ⟨P, hP⟩ : ∃ P, P = w.heap.size := ⟨_, rfl⟩
  rw [← hP] at HP0 hs ⊢
  have hPw : w.heap.size ≤ P := by omega
  clear hP
  go_wp2_with fail
  refine HK.out.mono ?_
  rintro e w2 ⟨rfl, hb⟩
  have HB2 := Lib.hid (HB0.out.trans (hb.mono HB0.out.size))
  have HP2 := Lib.hid (World.rowIs.of_block HP0.out (hb.block P hs))
  have HR02 := Lib.hid (HR0.out.below hb)
  have HR12 := Lib.hid (HR1.out.below hb)
  clear hb HK HB0 HP0 HR0 HR1 hs
  have hc0 : w2.cell? ⟨P, 0, none⟩ = some (.int .i64 o0) := HP2.out.cell (i := 0) (by omega)
  have hc1 : w2.cell? ⟨P, 1, none⟩ = some (.slice a0 len0 cap0) := HP2.out.cell (i := 1) (by omega)
  by_cases g0 : 70000 < len0
  · have hd : decide ((70000 : Int) < (len0 : Int)) = true := by simp; omega
    go_wp2_with fail
    go_ret
    exact ⟨rfl, HB2.out⟩
  · have hd : decide ((70000 : Int) < (len0 : Int)) = false := by simp; omega
    by_cases g1 : 32768 < len1
    · have hd1 : decide ((32768 : Int) < (len1 : Int)) = true := by simp; omega
      go_wp2_with fail
      go_ret
      exact ⟨rfl, HB2.out⟩
    · have hd1 : decide ((32768 : Int) < (len1 : Int)) = false := by simp; omega
      go_upto_region 5 with (fail)
      clear hc0 hc1 hd hd1
      go_cut [5] (fun s5 wx => ∃ M A' C', s5 = .pointer (some ⟨M, 0, none⟩) ∧ Hid (wx.rowIs M 50 2 (obF o0 A' len0 C')) ∧ Hid (wx.ownsRow w2.heap.size 5 1 (.slice A' len0 C') len0 (bv z0)) ∧ Hid (Below w2.heap.size w2 wx))
      case first =>
        have dC : Hid (w2.drew.cell? ⟨P, 0, none⟩ = some (.int .i64 o0) ∧ w2.drew.cell? ⟨P, 1, none⟩ = some (.slice a0 len0 cap0)) := Lib.hid ⟨HP2.out.cell (i := 0) (by omega), HP2.out.cell (i := 1) (by omega)⟩
        have dB : Hid (Below w2.heap.size w2 w2.drew) := Lib.hid (Below.refl _ _).drew
        have hPl : P < w2.heap.size := HP2.out.lt
        refine wp_region_noPanic ?_
        refine wp_region_held_drew (S := (fun wS => wS.cell? ⟨P, 0, none⟩ = some (.int .i64 o0) ∧ wS.cell? ⟨P, 1, none⟩ = some (.slice a0 len0 cap0))) (by kernel_rfl) ?_ (fun hHeld => ?_)
        · ((try dsimp only); exact dC.out)
        refine wpAnyH_take (i := 0) (oi := { dst := some 29, op := Op.fieldAddr 50 (Operand.tmp 2) 0, type := 0, pos := "law.go:78", after := #[], guard := none }) (v := ?_) rfl (by kernel_rfl) (by kernel_rfl) (by kernel_rfl) (fun _ _ _ h => h) (Or.inl ⟨by rfl, ?_⟩) (by assumption) ?_
        rotate_left 1
        · ((intro w hSw; (try dsimp only at hSw); go_simp) <;> with_reducible rfl)
        (try simp only [Act.put, List.setIfInBounds_toArray, List.set_cons_zero, List.set_cons_succ])
        refine wpAnyH_take (i := 1) (oi := { dst := some 30, op := Op.load 3 (Operand.tmp 29), type := 3, pos := "law.go:78", after := #[{ on := 0, ground := Ground.data }], guard := none }) (v := ?_) rfl (by kernel_rfl) (by kernel_rfl) (by kernel_rfl) (fun _ _ _ h => h) (Or.inl ⟨by rfl, ?_⟩) (by assumption) ?_
        rotate_left 1
        · ((intro w hSw; (try dsimp only at hSw); go_simp) <;> with_reducible rfl)
        (try simp only [Act.put, List.setIfInBounds_toArray, List.set_cons_zero, List.set_cons_succ])
        refine wpAnyH_take (i := 3) (oi := { dst := some 32, op := Op.fieldAddr 50 (Operand.tmp 2) 1, type := 0, pos := "law.go:78", after := #[], guard := none }) (v := ?_) rfl (by kernel_rfl) (by kernel_rfl) (by kernel_rfl) (fun _ _ _ h => h) (Or.inl ⟨by rfl, ?_⟩) (by assumption) ?_
        rotate_left 1
        · ((intro w hSw; (try dsimp only at hSw); go_simp) <;> with_reducible rfl)
        (try simp only [Act.put, List.setIfInBounds_toArray, List.set_cons_zero, List.set_cons_succ])
        refine wpAnyH_take (i := 4) (oi := { dst := some 33, op := Op.load 23 (Operand.tmp 32), type := 23, pos := "law.go:78", after := #[{ on := 3, ground := Ground.data }], guard := none }) (v := ?_) rfl (by kernel_rfl) (by kernel_rfl) (by kernel_rfl) (fun _ _ _ h => h) (Or.inl ⟨by rfl, ?_⟩) (by assumption) ?_
        rotate_left 1
        · ((intro w hSw; (try dsimp only at hSw); go_simp) <;> with_reducible rfl)
        (try simp only [Act.put, List.setIfInBounds_toArray, List.set_cons_zero, List.set_cons_succ])
        refine wpAnyH_ready (rs := [2, 7]) (by kernel_rfl) (by simp) ?_
        refine AllReadyH.cons (o := { dst := some 31, op := Op.buildSlice 23 0 #[], type := 23, pos := "law.go:78", after := #[], guard := none }) rfl (fun K hK => ?_) ?_
        · go_simp
          have eB : Hid (Below w2.heap.size w2 (w2.drew.alloc (.cells #[] 5))) := Lib.hid (dB.out.alloc (Nat.le_refl _) _)
          have dO : Hid ((w2.drew.alloc (.cells #[] 5)).ownsRow w2.heap.size 5 1 (.slice (some ⟨w2.heap.size, 0, none⟩) 0 0) 0 (bv [])) := Lib.hid (own_lit0 w2.drew)
          clear dB
          have dB := eB
          clear eB
          change K _ (w2.drew.alloc (.cells #[] 5))
          generalize w2.drew.alloc (.cells #[] 5) = wp at *
          (try go_wp2_with fail)
          refine hK.out _ _ ?_ (fun hNew => ?_)
          · ((try dsimp only); exact ⟨(dB.out.cell (p := ⟨P, 0, none⟩) hPl).trans dC.out.1, (dB.out.cell (p := ⟨P, 1, none⟩) hPl).trans dC.out.2⟩)
          clear hK K hHeld
          have hHeld := hNew
          clear hNew
          (try simp only [Act.put, List.setIfInBounds_toArray, List.set_cons_zero, List.set_cons_succ])
          refine wpAnyH_ready (rs := [5, 7]) (by kernel_rfl) (by simp) ?_
          refine AllReadyH.cons (o := { dst := some 34, op := Op.call { callee := Callee.builtin Builtin.append, args := #[Operand.tmp 31, Operand.tmp 33], argTypes := #[23, 23] }, type := 23, pos := "law.go:78", after := #[{ on := 2, ground := Ground.data }, { on := 4, ground := Ground.data }], guard := none }) rfl (fun K hK => ?_) ?_
          · refine step_append_k _ rfl _ _ rfl w2.heap.size _ 0 [] rfl dO.out a0 len0 cap0 z0 rfl (HR02.out.below dB.out) (by omega) dB.out.size ?_
            intro A' C' w5 ho hb hk
            rw [Nat.zero_add, List.nil_append] at ho
            rw [Nat.zero_add]
            have eO : Hid (w5.ownsRow w2.heap.size 5 1 (.slice A' len0 C') len0 (bv z0)) := Lib.hid ho
            have eB := Lib.hid (dB.out.trans hb)
            clear dB dO ho hb hk
            have dB := eB
            have dO := eO
            clear eB eO
            (try go_wp2_with fail)
            refine hK.out _ _ ?_ (fun hNew => ?_)
            · ((try dsimp only); exact ⟨(dB.out.cell (p := ⟨P, 0, none⟩) hPl).trans dC.out.1, (dB.out.cell (p := ⟨P, 1, none⟩) hPl).trans dC.out.2⟩)
            clear hK K hHeld
            have hHeld := hNew
            clear hNew
            (try simp only [Act.put, List.setIfInBounds_toArray, List.set_cons_zero, List.set_cons_succ])
            refine wpAnyH_take (i := 6) (oi := { dst := some 35, op := Op.build 50 #[(0, Operand.tmp 30), (1, Operand.tmp 34)], type := 50, pos := "law.go:78", after := #[{ on := 1, ground := Ground.data }, { on := 5, ground := Ground.data }], guard := none }) (v := ?_) rfl (by kernel_rfl) (by kernel_rfl) (by kernel_rfl) (fun _ _ _ h => h) (Or.inl ⟨by rfl, ?_⟩) (by assumption) ?_
            rotate_left 1
            · ((intro w hSw; (try dsimp only at hSw); go_simp) <;> with_reducible rfl)
            (try simp only [Act.put, List.setIfInBounds_toArray, List.set_cons_zero, List.set_cons_succ])
            refine wpAnyH_ready (rs := [7]) (by kernel_rfl) (by simp) ?_
            refine AllReadyH.cons (o := { dst := some 5, op := Op.alloc 50, type := 0, pos := "law.go:78", after := #[], guard := none }) rfl (fun K hK => ?_) ?_
            · go_simp
              have eB : Hid (Below w2.heap.size w2 (w5.alloc (.cells #[.int .i64 0, .slice none 0 0] 50))) := Lib.hid (dB.out.alloc dB.out.size _)
              have eO := Lib.hid (own_keep dO.out ((Below.refl w5.heap.size w5).alloc (Nat.le_refl _) (.cells #[.int .i64 0, .slice none 0 0] 50)))
              have eM : Hid ((w5.alloc (.cells #[.int .i64 0, .slice none 0 0] 50)).rowIs w5.heap.size 50 2 (obF 0 none 0 0)) := Lib.hid (row_new w5 #[.int .i64 0, .slice none 0 0] 50)
              have hMw : w2.heap.size ≤ w5.heap.size := dB.out.size
              have HFx := Lib.hid (Fin.mk2 (a := .int .i64 o0) (b := .slice A' len0 C') rfl rfl eM.out eB.out hMw)
              have HNe := Lib.hid (own_ne_row eO.out eM.out (by decide))
              clear dB dO eM
              have dB := eB
              have dO := eO
              clear eB eO
              change K _ (w5.alloc (.cells #[.int .i64 0, .slice none 0 0] 50))
              generalize w5.alloc (.cells #[.int .i64 0, .slice none 0 0] 50) = wq at *
              (try go_wp2_with fail)
              refine hK.out _ _ ?_ (fun hNew => ?_)
              · ((try dsimp only); exact ⟨(dB.out.cell (p := ⟨P, 0, none⟩) hPl).trans dC.out.1, (dB.out.cell (p := ⟨P, 1, none⟩) hPl).trans dC.out.2⟩)
              clear hK K hHeld
              have hHeld := hNew
              clear hNew
              (try simp only [Act.put, List.setIfInBounds_toArray, List.set_cons_zero, List.set_cons_succ])
              refine wpAnyH_ready (rs := [8]) (by kernel_rfl) (by simp) ?_
              refine AllReadyH.cons (o := { dst := none, op := Op.store 50 (Operand.tmp 5) (Operand.tmp 35), type := 0, pos := "law.go:78", after := #[{ on := 7, ground := Ground.data }, { on := 6, ground := Ground.data }, { on := 5, ground := Ground.chain }, { on := 0, ground := Ground.phase }, { on := 1, ground := Ground.phase }, { on := 2, ground := Ground.phase }, { on := 3, ground := Ground.phase }, { on := 4, ground := Ground.phase }, { on := 5, ground := Ground.phase }, { on := 6, ground := Ground.phase }, { on := 7, ground := Ground.phase }], guard := none }) rfl (fun K hK => ?_) ?_
              · refine step_store_mid rfl _ _ _ rfl _ 0 [.int .i64 o0, .slice A' len0 C'].toArray rfl rfl HFx.out.there HFx.out.size HFx.out.one ?_
                clear dB
                have dB := Lib.hid HFx.out.bel
                have dM := Lib.hid HFx.out.row2
                have eO := Lib.hid (own_grown dO.out (grown_cells _ _ [.int .i64 o0, .slice A' len0 C'] 0) HNe.out)
                clear dO HFx
                (try go_wp2_with fail)
                refine hK.out _ _ ?_ (fun hNew => ?_)
                · ((try dsimp only); exact ⟨(dB.out.cell (p := ⟨P, 0, none⟩) hPl).trans dC.out.1, (dB.out.cell (p := ⟨P, 1, none⟩) hPl).trans dC.out.2⟩)
                clear hK K hHeld
                have hHeld := hNew
                clear hNew
                (try simp only [Act.put, List.setIfInBounds_toArray, List.set_cons_zero, List.set_cons_succ])
                refine wpAnyH_done (by kernel_rfl) ?_ _
                refine NoPanic.normal ?_
                clear hHeld
                go_wp2_with fail
                go_meet
                exact ⟨_, A', C', rfl, dM, eO, dB⟩
              exact AllReadyH.nil
            exact AllReadyH.nil
          refine AllReadyH.cons (o := { dst := some 5, op := Op.alloc 50, type := 0, pos := "law.go:78", after := #[], guard := none }) rfl (fun K hK => ?_) ?_
          · go_simp
            have eB : Hid (Below w2.heap.size w2 (wp.alloc (.cells #[.int .i64 0, .slice none 0 0] 50))) := Lib.hid (dB.out.alloc dB.out.size _)
            have eO := Lib.hid (own_keep dO.out ((Below.refl wp.heap.size wp).alloc (Nat.le_refl _) (.cells #[.int .i64 0, .slice none 0 0] 50)))
            have dM : Hid ((wp.alloc (.cells #[.int .i64 0, .slice none 0 0] 50)).rowIs wp.heap.size 50 2 (obF 0 none 0 0)) := Lib.hid (row_new wp #[.int .i64 0, .slice none 0 0] 50)
            have hMw : w2.heap.size ≤ wp.heap.size := dB.out.size
            clear dB dO
            have dB := eB
            have dO := eO
            clear eB eO
            change K _ (wp.alloc (.cells #[.int .i64 0, .slice none 0 0] 50))
            generalize wp.alloc (.cells #[.int .i64 0, .slice none 0 0] 50) = wq at *
            (try go_wp2_with fail)
            refine hK.out _ _ ?_ (fun hNew => ?_)
            · ((try dsimp only); exact ⟨(dB.out.cell (p := ⟨P, 0, none⟩) hPl).trans dC.out.1, (dB.out.cell (p := ⟨P, 1, none⟩) hPl).trans dC.out.2⟩)
            clear hK K hHeld
            have hHeld := hNew
            clear hNew
            (try simp only [Act.put, List.setIfInBounds_toArray, List.set_cons_zero, List.set_cons_succ])
            refine wpAnyH_ready (rs := [5]) (by kernel_rfl) (by simp) ?_
            refine AllReadyH.cons (o := { dst := some 34, op := Op.call { callee := Callee.builtin Builtin.append, args := #[Operand.tmp 31, Operand.tmp 33], argTypes := #[23, 23] }, type := 23, pos := "law.go:78", after := #[{ on := 2, ground := Ground.data }, { on := 4, ground := Ground.data }], guard := none }) rfl (fun K hK => ?_) ?_
            · refine step_append_k _ rfl _ _ rfl w2.heap.size _ 0 [] rfl dO.out a0 len0 cap0 z0 rfl (HR02.out.below dB.out) (by omega) dB.out.size ?_
              intro A' C' w5 ho hb hk
              rw [Nat.zero_add, List.nil_append] at ho
              rw [Nat.zero_add]
              have eO : Hid (w5.ownsRow w2.heap.size 5 1 (.slice A' len0 C') len0 (bv z0)) := Lib.hid ho
              have eB := Lib.hid (dB.out.trans hb)
              have eM := Lib.hid (hk.row dM.out (by decide))
              have HFx := Lib.hid (Fin.mk2 (a := .int .i64 o0) (b := .slice A' len0 C') rfl rfl eM.out eB.out hMw)
              have HNe := Lib.hid (own_ne_row eO.out eM.out (by decide))
              clear dB dO dM ho hb hk
              have dB := eB
              have dO := eO
              clear eB eO eM
              (try go_wp2_with fail)
              refine hK.out _ _ ?_ (fun hNew => ?_)
              · ((try dsimp only); exact ⟨(dB.out.cell (p := ⟨P, 0, none⟩) hPl).trans dC.out.1, (dB.out.cell (p := ⟨P, 1, none⟩) hPl).trans dC.out.2⟩)
              clear hK K hHeld
              have hHeld := hNew
              clear hNew
              (try simp only [Act.put, List.setIfInBounds_toArray, List.set_cons_zero, List.set_cons_succ])
              refine wpAnyH_take (i := 6) (oi := { dst := some 35, op := Op.build 50 #[(0, Operand.tmp 30), (1, Operand.tmp 34)], type := 50, pos := "law.go:78", after := #[{ on := 1, ground := Ground.data }, { on := 5, ground := Ground.data }], guard := none }) (v := ?_) rfl (by kernel_rfl) (by kernel_rfl) (by kernel_rfl) (fun _ _ _ h => h) (Or.inl ⟨by rfl, ?_⟩) (by assumption) ?_
              rotate_left 1
              · ((intro w hSw; (try dsimp only at hSw); go_simp) <;> with_reducible rfl)
              (try simp only [Act.put, List.setIfInBounds_toArray, List.set_cons_zero, List.set_cons_succ])
              refine wpAnyH_ready (rs := [8]) (by kernel_rfl) (by simp) ?_
              refine AllReadyH.cons (o := { dst := none, op := Op.store 50 (Operand.tmp 5) (Operand.tmp 35), type := 0, pos := "law.go:78", after := #[{ on := 7, ground := Ground.data }, { on := 6, ground := Ground.data }, { on := 5, ground := Ground.chain }, { on := 0, ground := Ground.phase }, { on := 1, ground := Ground.phase }, { on := 2, ground := Ground.phase }, { on := 3, ground := Ground.phase }, { on := 4, ground := Ground.phase }, { on := 5, ground := Ground.phase }, { on := 6, ground := Ground.phase }, { on := 7, ground := Ground.phase }], guard := none }) rfl (fun K hK => ?_) ?_
              · refine step_store_mid rfl _ _ _ rfl _ 0 [.int .i64 o0, .slice A' len0 C'].toArray rfl rfl HFx.out.there HFx.out.size HFx.out.one ?_
                clear dB
                have dB := Lib.hid HFx.out.bel
                have dM := Lib.hid HFx.out.row2
                have eO := Lib.hid (own_grown dO.out (grown_cells _ _ [.int .i64 o0, .slice A' len0 C'] 0) HNe.out)
                clear dO HFx
                (try go_wp2_with fail)
                refine hK.out _ _ ?_ (fun hNew => ?_)
                · ((try dsimp only); exact ⟨(dB.out.cell (p := ⟨P, 0, none⟩) hPl).trans dC.out.1, (dB.out.cell (p := ⟨P, 1, none⟩) hPl).trans dC.out.2⟩)
                clear hK K hHeld
                have hHeld := hNew
                clear hNew
                (try simp only [Act.put, List.setIfInBounds_toArray, List.set_cons_zero, List.set_cons_succ])
                refine wpAnyH_done (by kernel_rfl) ?_ _
                refine NoPanic.normal ?_
                clear hHeld
                go_wp2_with fail
                go_meet
                exact ⟨_, A', C', rfl, dM, eO, dB⟩
              exact AllReadyH.nil
            exact AllReadyH.nil
          exact AllReadyH.nil
        refine AllReadyH.cons (o := { dst := some 5, op := Op.alloc 50, type := 0, pos := "law.go:78", after := #[], guard := none }) rfl (fun K hK => ?_) ?_
        · go_simp
          have eB : Hid (Below w2.heap.size w2 (w2.drew.alloc (.cells #[.int .i64 0, .slice none 0 0] 50))) := Lib.hid (dB.out.alloc (Nat.le_refl _) _)
          have dM : Hid ((w2.drew.alloc (.cells #[.int .i64 0, .slice none 0 0] 50)).rowIs w2.heap.size 50 2 (obF 0 none 0 0)) := Lib.hid (row_new w2.drew #[.int .i64 0, .slice none 0 0] 50)
          have hMw : w2.heap.size ≤ w2.heap.size := Nat.le_refl _
          clear dB
          have dB := eB
          clear eB
          change K _ (w2.drew.alloc (.cells #[.int .i64 0, .slice none 0 0] 50))
          generalize w2.drew.alloc (.cells #[.int .i64 0, .slice none 0 0] 50) = wp at *
          (try go_wp2_with fail)
          refine hK.out _ _ ?_ (fun hNew => ?_)
          · ((try dsimp only); exact ⟨(dB.out.cell (p := ⟨P, 0, none⟩) hPl).trans dC.out.1, (dB.out.cell (p := ⟨P, 1, none⟩) hPl).trans dC.out.2⟩)
          clear hK K hHeld
          have hHeld := hNew
          clear hNew
          (try simp only [Act.put, List.setIfInBounds_toArray, List.set_cons_zero, List.set_cons_succ])
          refine wpAnyH_ready (rs := [2]) (by kernel_rfl) (by simp) ?_
          refine AllReadyH.cons (o := { dst := some 31, op := Op.buildSlice 23 0 #[], type := 23, pos := "law.go:78", after := #[], guard := none }) rfl (fun K hK => ?_) ?_
          · go_simp
            have eB : Hid (Below w2.heap.size w2 (wp.alloc (.cells #[] 5))) := Lib.hid (dB.out.alloc dB.out.size _)
            have dO : Hid ((wp.alloc (.cells #[] 5)).ownsRow w2.heap.size 5 1 (.slice (some ⟨wp.heap.size, 0, none⟩) 0 0) 0 (bv [])) := Lib.hid (own_base (own_lit0 wp) dB.out.size)
            have eM := Lib.hid (World.rowIs.alloc dM.out (.cells #[] 5))
            clear dB dM
            have dB := eB
            have dM := eM
            clear eB eM
            change K _ (wp.alloc (.cells #[] 5))
            generalize wp.alloc (.cells #[] 5) = wq at *
            (try go_wp2_with fail)
            refine hK.out _ _ ?_ (fun hNew => ?_)
            · ((try dsimp only); exact ⟨(dB.out.cell (p := ⟨P, 0, none⟩) hPl).trans dC.out.1, (dB.out.cell (p := ⟨P, 1, none⟩) hPl).trans dC.out.2⟩)
            clear hK K hHeld
            have hHeld := hNew
            clear hNew
            (try simp only [Act.put, List.setIfInBounds_toArray, List.set_cons_zero, List.set_cons_succ])
            refine wpAnyH_ready (rs := [5]) (by kernel_rfl) (by simp) ?_
            refine AllReadyH.cons (o := { dst := some 34, op := Op.call { callee := Callee.builtin Builtin.append, args := #[Operand.tmp 31, Operand.tmp 33], argTypes := #[23, 23] }, type := 23, pos := "law.go:78", after := #[{ on := 2, ground := Ground.data }, { on := 4, ground := Ground.data }], guard := none }) rfl (fun K hK => ?_) ?_
            · refine step_append_k _ rfl _ _ rfl w2.heap.size _ 0 [] rfl dO.out a0 len0 cap0 z0 rfl (HR02.out.below dB.out) (by omega) dB.out.size ?_
              intro A' C' w5 ho hb hk
              rw [Nat.zero_add, List.nil_append] at ho
              rw [Nat.zero_add]
              have eO : Hid (w5.ownsRow w2.heap.size 5 1 (.slice A' len0 C') len0 (bv z0)) := Lib.hid ho
              have eB := Lib.hid (dB.out.trans hb)
              have eM := Lib.hid (hk.row dM.out (by decide))
              have HFx := Lib.hid (Fin.mk2 (a := .int .i64 o0) (b := .slice A' len0 C') rfl rfl eM.out eB.out hMw)
              have HNe := Lib.hid (own_ne_row eO.out eM.out (by decide))
              clear dB dO dM ho hb hk
              have dB := eB
              have dO := eO
              clear eB eO eM
              (try go_wp2_with fail)
              refine hK.out _ _ ?_ (fun hNew => ?_)
              · ((try dsimp only); exact ⟨(dB.out.cell (p := ⟨P, 0, none⟩) hPl).trans dC.out.1, (dB.out.cell (p := ⟨P, 1, none⟩) hPl).trans dC.out.2⟩)
              clear hK K hHeld
              have hHeld := hNew
              clear hNew
              (try simp only [Act.put, List.setIfInBounds_toArray, List.set_cons_zero, List.set_cons_succ])
              refine wpAnyH_take (i := 6) (oi := { dst := some 35, op := Op.build 50 #[(0, Operand.tmp 30), (1, Operand.tmp 34)], type := 50, pos := "law.go:78", after := #[{ on := 1, ground := Ground.data }, { on := 5, ground := Ground.data }], guard := none }) (v := ?_) rfl (by kernel_rfl) (by kernel_rfl) (by kernel_rfl) (fun _ _ _ h => h) (Or.inl ⟨by rfl, ?_⟩) (by assumption) ?_
              rotate_left 1
              · ((intro w hSw; (try dsimp only at hSw); go_simp) <;> with_reducible rfl)
              (try simp only [Act.put, List.setIfInBounds_toArray, List.set_cons_zero, List.set_cons_succ])
              refine wpAnyH_ready (rs := [8]) (by kernel_rfl) (by simp) ?_
              refine AllReadyH.cons (o := { dst := none, op := Op.store 50 (Operand.tmp 5) (Operand.tmp 35), type := 0, pos := "law.go:78", after := #[{ on := 7, ground := Ground.data }, { on := 6, ground := Ground.data }, { on := 5, ground := Ground.chain }, { on := 0, ground := Ground.phase }, { on := 1, ground := Ground.phase }, { on := 2, ground := Ground.phase }, { on := 3, ground := Ground.phase }, { on := 4, ground := Ground.phase }, { on := 5, ground := Ground.phase }, { on := 6, ground := Ground.phase }, { on := 7, ground := Ground.phase }], guard := none }) rfl (fun K hK => ?_) ?_
              · refine step_store_mid rfl _ _ _ rfl _ 0 [.int .i64 o0, .slice A' len0 C'].toArray rfl rfl HFx.out.there HFx.out.size HFx.out.one ?_
                clear dB
                have dB := Lib.hid HFx.out.bel
                have dM := Lib.hid HFx.out.row2
                have eO := Lib.hid (own_grown dO.out (grown_cells _ _ [.int .i64 o0, .slice A' len0 C'] 0) HNe.out)
                clear dO HFx
                (try go_wp2_with fail)
                refine hK.out _ _ ?_ (fun hNew => ?_)
                · ((try dsimp only); exact ⟨(dB.out.cell (p := ⟨P, 0, none⟩) hPl).trans dC.out.1, (dB.out.cell (p := ⟨P, 1, none⟩) hPl).trans dC.out.2⟩)
                clear hK K hHeld
                have hHeld := hNew
                clear hNew
                (try simp only [Act.put, List.setIfInBounds_toArray, List.set_cons_zero, List.set_cons_succ])
                refine wpAnyH_done (by kernel_rfl) ?_ _
                refine NoPanic.normal ?_
                clear hHeld
                go_wp2_with fail
                go_meet
                exact ⟨_, A', C', rfl, dM, eO, dB⟩
              exact AllReadyH.nil
            exact AllReadyH.nil
          exact AllReadyH.nil
        exact AllReadyH.nil
      case rest =>
        obtain ⟨M, A', C', rfl, HM, HO, HBc⟩ := hcut
        have hPl : P < w2.heap.size := HP2.out.lt
        have HPc := Lib.hid (World.rowIs.of_block HP2.out (HBc.out.block P hPl))
        have HR0c := Lib.hid (HR02.out.below HBc.out)
        have HR1c := Lib.hid (HR12.out.below HBc.out)
        have HBw := Lib.hid (HB2.out.trans (HBc.out.mono HB2.out.size))
        have HMr := Lib.hid (RdB.of_own2 HO.out (by omega) HR02.out.byte)
        have hz1 := zero32
        have hz2 : ∀ w : World, (zeroValue 50).run Try.prog w = .ok (.agg #[.int .i64 0, .slice none 0 0]) w := fun w => by rfl
        clear HP2 HR02 HR12 HB2 HBc
        have hMl : M < wc.heap.size := HM.out.lt
        have hPc : P < wc.heap.size := HPc.out.lt
        have hwc : w.heap.size ≤ wc.heap.size := HBw.out.size
        -- EncodeObj of the copy
        have hm0 : wc.cell? ⟨M, 0, none⟩ = some (.int .i64 o0) := HM.out.cell (i := 0) (by omega)
        have hm1 : wc.cell? ⟨M, 1, none⟩ = some (.slice A' len0 C') := HM.out.cell (i := 1) (by omega)
        have HT := Lib.hid (encodeObj_any o0 A' len0 C' z0 wc HMr.out (by omega))
        go_wp2_with fail
        refine HT.out.mono ?_
        intro e w3 hr
        obtain ⟨hb, X3, n3, C3, rfl, ho⟩ := hr.flat
        have HX3 := Lib.hid ho
        have HB3 := Lib.hid hb
        clear hr hb ho HT hm0 hm1
        -- the document's
        have hp0 : w3.cell? ⟨P, 0, none⟩ = some (.int .i64 o0) := (HB3.out.cell (p := ⟨P, 0, none⟩) hPc).trans (HPc.out.cell (i := 0) (by omega))
        have hp1 : w3.cell? ⟨P, 1, none⟩ = some (.slice a0 len0 cap0) := (HB3.out.cell (p := ⟨P, 1, none⟩) hPc).trans (HPc.out.cell (i := 1) (by omega))
        have HT := Lib.hid (rencodeObj_any o0 a0 len0 cap0 z0 w3 (HR0c.out.below HB3.out) (by omega))
        go_wp2_with fail
        refine HT.out.mono ?_
        intro e w4 hr
        obtain ⟨hb, X4, n4, C4, rfl, ho⟩ := hr.flat
        have HY4 := Lib.hid ho
        have HX4 := Lib.hid (own_keep HX3.out hb)
        have HB4 := Lib.hid (HB3.out.trans (hb.mono HB3.out.size))
        clear hr hb ho HT hp0 hp1 HX3 HB3
        -- Id of the copy
        have hm0 : w4.cell? ⟨M, 0, none⟩ = some (.int .i64 o0) := (HB4.out.cell (p := ⟨M, 0, none⟩) hMl).trans (HM.out.cell (i := 0) (by omega))
        have hm1 : w4.cell? ⟨M, 1, none⟩ = some (.slice A' len0 C') := (HB4.out.cell (p := ⟨M, 1, none⟩) hMl).trans (HM.out.cell (i := 1) (by omega))
        have HT := Lib.hid (objId_any o0 A' len0 C' z0 w4 (HMr.out.below HB4.out) (by omega))
        go_wp2_with fail
        refine HT.out.mono ?_
        intro e w5 hr
        obtain ⟨hb, rfl⟩ := hr.flat
        have HX5 := Lib.hid (own_keep HX4.out hb)
        have HY5 := Lib.hid (own_keep HY4.out hb)
        have HB5 := Lib.hid (HB4.out.trans (hb.mono HB4.out.size))
        clear hr hb HT hm0 hm1 HX4 HY4 HB4
        have hDl := idB_len o0 z0 len0
        have HSe : Hid (∀ w : World, (Op.equalIn 10000 37 (.agg (bv (idB o0 z0 len0)).toArray) (.agg (bv (idB o0 z0 len0)).toArray)).run Try.prog w = .ok true w) := Lib.hid (fun w => by rw [ids_eq _ _ hDl hDl]; simp)
        obtain ⟨hf, hrg⟩ := lay_new w5 37 32 (bv (List.replicate 32 0)).toArray (bv (idB o0 z0 len0)) infoId (by simp [bv]) (by rw [bv_len]; exact hDl) (bv_one _)
        generalize hD : bv (idB o0 z0 len0) = D at *
        have HSz : Hid ((Try.prog.info? 37).map (·.size) = some D.length) := Lib.hid (by rw [← hD, bv_len, hDl]; exact infoId)
        have HDl : Hid (D.length = 32) := Lib.hid (by rw [← hD, bv_len]; exact hDl)
        have HDo : Hid (∀ v ∈ D, v.oneCell' = true) := Lib.hid (by rw [← hD]; exact bv_one _)
        have HD := Lib.hid hD
        generalize hZ1 : (bv (List.replicate 32 0)).toArray = Z1 at *
        have HZ1 : Hid (Z1.size = 32) := Lib.hid (by rw [← hZ1]; simp [bv])
        have HF := Lib.hid hf
        have HG6 := Lib.hid hrg
        have HX6 := Lib.hid (own_keep HX5.out hf.bel)
        have HY6 := Lib.hid (own_keep HY5.out hf.bel)
        have HB6 := Lib.hid (HB5.out.trans (hf.bel.mono HB5.out.size))
        have hI6 : w5.heap.size < ((w5.alloc (.cells Z1 37)).setCells w5.heap.size 0 D).heap.size := hrg.lt_of (by rw [HDl.out]; decide)
        clear hf hrg HX5 HY5 HB5 hDl hD hZ1
        go_upto_region 9 with (refine wpList_store_mid rfl _ _ _ rfl w5.heap.size 0 D.toArray rfl rfl HF.out.there HF.out.size HF.out.one ?_)
        change Code.wp _ _ _ _ ((w5.alloc (.cells Z1 37)).setCells w5.heap.size 0 D)
        clear HF
        generalize (w5.alloc (.cells Z1 37)).setCells w5.heap.size 0 D = w6 at *
        generalize w5.heap.size = I1 at *
        -- the document's Id
        have hp0 : w6.cell? ⟨P, 0, none⟩ = some (.int .i64 o0) := (HB6.out.cell (p := ⟨P, 0, none⟩) hPc).trans (HPc.out.cell (i := 0) (by omega))
        have hp1 : w6.cell? ⟨P, 1, none⟩ = some (.slice a0 len0 cap0) := (HB6.out.cell (p := ⟨P, 1, none⟩) hPc).trans (HPc.out.cell (i := 1) (by omega))
        have HT := Lib.hid (robjId_any o0 a0 len0 cap0 z0 w6 (HR0c.out.below HB6.out) (by omega))
        go_wp2_with fail
        refine HT.out.mono ?_
        intro e w7 hr
        obtain ⟨hb, rfl⟩ := hr.flat
        rw [HD.out]
        have HX7 := Lib.hid (own_keep HX6.out hb)
        have HY7 := Lib.hid (own_keep HY6.out hb)
        have HG7 := Lib.hid (range_below hb HG6.out hI6)
        have hI7 : I1 < w7.heap.size := Nat.lt_of_lt_of_le hI6 hb.size
        have HB7 := Lib.hid (HB6.out.trans (hb.mono HB6.out.size))
        clear hr hb HT hp0 hp1 HX6 HY6 HB6 HG6 hI6
        obtain ⟨hf, hrg⟩ := lay_new w7 37 32 Z1 D infoId HZ1.out HDl.out HDo.out
        have HF := Lib.hid hf
        have HH8 := Lib.hid hrg
        have HX8 := Lib.hid (own_keep HX7.out hf.bel)
        have HY8 := Lib.hid (own_keep HY7.out hf.bel)
        have HG8 := Lib.hid (range_below hf.bel HG7.out hI7)
        have HB8 := Lib.hid (HB7.out.trans (hf.bel.mono HB7.out.size))
        have hJ8 : w7.heap.size < ((w7.alloc (.cells Z1 37)).setCells w7.heap.size 0 D).heap.size := hrg.lt_of (by rw [HDl.out]; decide)
        have hI8 : I1 < ((w7.alloc (.cells Z1 37)).setCells w7.heap.size 0 D).heap.size := Nat.lt_trans hI7 hJ8
        clear hf hrg HX7 HY7 HB7 HG7 hI7
        go_upto_region 10 with (refine wpList_store_mid rfl _ _ _ rfl w7.heap.size 0 D.toArray rfl rfl HF.out.there HF.out.size HF.out.one ?_)
        change Code.wp _ _ _ _ ((w7.alloc (.cells Z1 37)).setCells w7.heap.size 0 D)
        clear HF
        generalize (w7.alloc (.cells Z1 37)).setCells w7.heap.size 0 D = w8 at *
        generalize w7.heap.size = I2 at *
        -- ParseObj of a copy
        have hba := (Below.refl w8.heap.size w8).alloc (Nat.le_refl _) (.cells #[] 5)
        have HRa := Lib.hid ((HR1c.out.below HB8.out).below hba)
        have HBa := Lib.hid hba
        have hsa := al_le w8 (.cells #[] 5)
        clear hba
        go_wp2_with (refine wpList_append_rd _ rfl _ _ rfl w8.heap.size _ 0 [] rfl (own_lit0 w8) a1 len1 cap1 z1 rfl HRa.out (by omega) hsa ?_)
        intro X9 C9 w9 ho hb
        have hb9 := HBa.out.trans hb
        have HR9 := Lib.hid (RdB.of_own2 (n := len1) (l := z1) ho (by omega) HR1c.out.byte)
        have HX9 := Lib.hid (own_keep HX8.out hb9)
        have HY9 := Lib.hid (own_keep HY8.out hb9)
        have HG9 := Lib.hid (range_below hb9 HG8.out hI8)
        have HH9 := Lib.hid (range_below hb9 HH8.out hJ8)
        have HB9 := Lib.hid (HB8.out.trans (hb9.mono HB8.out.size))
        have hI9 : I1 < w9.heap.size := Nat.lt_of_lt_of_le hI8 hb9.size
        have hJ9 : I2 < w9.heap.size := Nat.lt_of_lt_of_le hJ8 hb9.size
        clear ho hb hb9 HRa HBa hsa HX8 HY8 HG8 HH8 HB8 hI8 hJ8
        have HT := Lib.hid (parseObj_any X9 len1 C9 z1 w9 HR9.out (by omega))
        go_wp2_with fail
        refine HT.out.mono ?_
        intro e w10 hr
        obtain ⟨hb, X10, n10, C10, rfl, ho⟩ := hr.flat
        have HP10 := Lib.hid ho
        have HX10 := Lib.hid (own_keep HX9.out hb)
        have HY10 := Lib.hid (own_keep HY9.out hb)
        have HG10 := Lib.hid (range_below hb HG9.out hI9)
        have HH10 := Lib.hid (range_below hb HH9.out hJ9)
        have HB10 := Lib.hid (HB9.out.trans (hb.mono HB9.out.size))
        have hI10 : I1 < w10.heap.size := Nat.lt_of_lt_of_le hI9 hb.size
        have hJ10 : I2 < w10.heap.size := Nat.lt_of_lt_of_le hJ9 hb.size
        clear hr ho hb HT HX9 HY9 HG9 HH9 HB9 hI9 hJ9 HR9
        obtain ⟨KD, hKD⟩ : ∃ KD, KD = poKd z1 len1 := ⟨_, rfl⟩
        obtain ⟨EE, hEE⟩ : ∃ EE, EE = poE z1 len1 := ⟨_, rfl⟩
        rw [← hKD, ← hEE]
        have HKD := Lib.hid hKD
        have HEE := Lib.hid hEE
        clear hKD hEE
        obtain ⟨hf, hrg⟩ := lay_new w10 50 2 #[.int .i64 0, .slice none 0 0] [.int .i64 KD, .slice X10 n10 C10] infoObj rfl rfl two_one
        have HF := Lib.hid hf
        have HQ11 := Lib.hid hf.row2
        have HP11 := Lib.hid (own_keep HP10.out hf.bel)
        have HX11 := Lib.hid (own_keep HX10.out hf.bel)
        have HY11 := Lib.hid (own_keep HY10.out hf.bel)
        have HG11 := Lib.hid (range_below hf.bel HG10.out hI10)
        have HH11 := Lib.hid (range_below hf.bel HH10.out hJ10)
        have HB11 := Lib.hid (HB10.out.trans (hf.bel.mono HB10.out.size))
        have hs11 := hf.bel.size
        have hI11 := Nat.lt_of_lt_of_le hI10 hs11
        have hJ11 := Nat.lt_of_lt_of_le hJ10 hs11
        clear hf hrg hs11 HP10 HX10 HY10 HG10 HH10 HB10 hI10 hJ10
        go_upto_region 11 with (refine wpList_store_mid rfl _ _ _ rfl w10.heap.size 0 [.int .i64 KD, .slice X10 n10 C10].toArray rfl rfl HF.out.there HF.out.size HF.out.one ?_)
        change Code.wp _ _ _ _ ((w10.alloc (.cells #[.int .i64 0, .slice none 0 0] 50)).setCells w10.heap.size 0 [.int .i64 KD, .slice X10 n10 C10])
        clear HF
        generalize (w10.alloc (.cells #[.int .i64 0, .slice none 0 0] 50)).setCells w10.heap.size 0 [.int .i64 KD, .slice X10 n10 C10] = w11 at *
        generalize w10.heap.size = Q1 at *
        have HT := Lib.hid (rparseObj_any a1 len1 cap1 z1 w11 (HR1c.out.below HB11.out) (by omega))
        have hQ11 := HQ11.out.lt
        go_wp2_with fail
        refine HT.out.mono ?_
        intro e w12 hr
        obtain ⟨hb, X12, n12, C12, rfl, ho⟩ := hr.flat
        rw [← HKD.out, ← HEE.out]
        have HR12 := Lib.hid ho
        have HQ12 := Lib.hid (World.rowIs.of_block HQ11.out (hb.block Q1 hQ11))
        have HP12 := Lib.hid (own_keep HP11.out hb)
        have HX12 := Lib.hid (own_keep HX11.out hb)
        have HY12 := Lib.hid (own_keep HY11.out hb)
        have HG12 := Lib.hid (range_below hb HG11.out hI11)
        have HH12 := Lib.hid (range_below hb HH11.out hJ11)
        have HB12 := Lib.hid (HB11.out.trans (hb.mono HB11.out.size))
        have hI12 : I1 < w12.heap.size := Nat.lt_of_lt_of_le hI11 hb.size
        have hJ12 : I2 < w12.heap.size := Nat.lt_of_lt_of_le hJ11 hb.size
        clear hr ho hb HT HP11 HX11 HY11 HG11 HH11 HB11 hI11 hJ11 HQ11 hQ11
        obtain ⟨hf, hrg⟩ := lay_new w12 50 2 #[.int .i64 0, .slice none 0 0] [.int .i64 KD, .slice X12 n12 C12] infoObj rfl rfl two_one
        have HF := Lib.hid hf
        have HS13 := Lib.hid hf.row2
        have HQ13 := Lib.hid (World.rowIs.of_block HQ12.out (hf.bel.block Q1 HQ12.out.lt))
        have HP13 := Lib.hid (own_keep HP12.out hf.bel)
        have HR13 := Lib.hid (own_keep HR12.out hf.bel)
        have HX13 := Lib.hid (own_keep HX12.out hf.bel)
        have HY13 := Lib.hid (own_keep HY12.out hf.bel)
        have HG13 := Lib.hid (range_below hf.bel HG12.out hI12)
        have HH13 := Lib.hid (range_below hf.bel HH12.out hJ12)
        have HB13 := Lib.hid (HB12.out.trans (hf.bel.mono HB12.out.size))
        clear hf hrg HP12 HX12 HY12 HG12 HH12 HB12 HQ12 HR12 hI12 hJ12
        go_upto_region 12 with (refine wpList_store_mid rfl _ _ _ rfl w12.heap.size 0 [.int .i64 KD, .slice X12 n12 C12].toArray rfl rfl HF.out.there HF.out.size HF.out.one ?_)
        change Code.wp _ _ _ _ ((w12.alloc (.cells #[.int .i64 0, .slice none 0 0] 50)).setCells w12.heap.size 0 [.int .i64 KD, .slice X12 n12 C12])
        clear HF
        generalize (w12.alloc (.cells #[.int .i64 0, .slice none 0 0] 50)).setCells w12.heap.size 0 [.int .i64 KD, .slice X12 n12 C12] = wz at *
        generalize w12.heap.size = Q2 at *
        have hx := conv_own' HX13.out
        have hy := conv_own' HY13.out
        have hp := conv_own' HP13.out
        have hr := conv_own' HR13.out
        have hm := conv_rd (HMr.out.below HB13.out)
        have hn := conv_rd (HR0c.out.below HB13.out)
        have hq0 : wz.cell? ⟨Q1, 0, none⟩ = some (.int .i64 KD) := HQ13.out.cell (i := 0) (by omega)
        have hq1 : wz.cell? ⟨Q1, 1, none⟩ = some (.slice X10 n10 C10) := HQ13.out.cell (i := 1) (by omega)
        have hs0 : wz.cell? ⟨Q2, 0, none⟩ = some (.int .i64 KD) := HS13.out.cell (i := 0) (by omega)
        have hs1 : wz.cell? ⟨Q2, 1, none⟩ = some (.slice X12 n12 C12) := HS13.out.cell (i := 1) (by omega)
        have hm1 : wz.cell? ⟨M, 1, none⟩ = some (.slice A' len0 C') := (HB13.out.cell (p := ⟨M, 1, none⟩) hMl).trans (HM.out.cell (i := 1) (by omega))
        have hp1 : wz.cell? ⟨P, 1, none⟩ = some (.slice a0 len0 cap0) := (HB13.out.cell (p := ⟨P, 1, none⟩) hPc).trans (HPc.out.cell (i := 1) (by omega))
        have hse := conv_eq (sb (eoB o0 z0 len0))
        have hsp := conv_eq (sb (poB z1 len1))
        have hsz := conv_eq (sb z0)
        have hsd := HSe.out wz
        have HBz := Lib.hid (HBw.out.trans (HB13.out.mono hwc))
        clear HX13 HY13 HP13 HR13 HQ13 HS13 HM HO HPc HR0c HR1c HMr HBw HB13 HSe hMl hPc hwc hz1 hz2
        generalize sb (eoB o0 z0 len0) = S1 at *
        generalize sb (poB z1 len1) = S2 at *
        generalize sb z0 = S3 at *
        generalize ckE o0 z0 len0 = E0 at *
        go_wp2_with (first
          | (refine wpList_load_g (by rfl) _ _ rfl I1 0 rfl D _ HG13.out Try.underlying37 rfl HSz.out ?_)
          | (refine wpList_load_g (by rfl) _ _ rfl I2 0 rfl D _ HH13.out Try.underlying37 rfl HSz.out ?_))
        go_ret
        exact ⟨rfl, HBz.out⟩
end Go.Proofs.Ytmcmapgllaopmaa.Cd
end
