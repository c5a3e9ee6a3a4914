/- The document's Of: the words behind a block's. -/
import Derived.Test.YtgmcdkkjemjneaaSmROfP
namespace Go.Proofs.Ytgmcdkkjemjneaa.Sm
open Go.RowKit
set_option linter.unusedVariables false

noncomputable def sched64_code : Code := (Try.f10.body.bind (blockOf 6)).getD .skip
set_option maxRecDepth 1000000 in
set_option maxHeartbeats 4000000 in
theorem sched64 (wr : World) {u0 u1 u2 u3 u4 u5 u7 u8 u10 u11 u12 u13 u14 u15 u16 u17 u18 u19 u20 u21 u22 u23 u24 u25 u26 u27 u28 u29 u30 u31 u32 u33 u34 u35 u36 u37 u38 u39 u40 u41 u42 u43 u44 u45 u46 u47 u48 u49 u50 u51 u52 u53 u54 u55 u56 u57 u58 u59 u60 u61 u62 u63 u64 u65 u66 u67 u68 u69 u70 u71 u72 u73 u74 u75 u76 u77 u78 u79 u80 u81 u82 u83 u84 u85 u86 u87 u88 u89 u90 u91 u92 u93 u94 u95 u96 u97 u98 u99 u100 u101 u102 u103 u104 u105 u106 u107 u108 u109 u110 u111 u112 u113 u114 u115 u116 u117 u118 u119 u120 u121 u122 u123 u124 u125 u126 u127 u128 u129 u130 u131 u132 u133 u134 u135 u136 u137 u138 u139 u140 u141 u142 u143 u144 u145 u146 u147 u148 u149 u150 u151 u152 u153 u154 u155 u156 u157 u158 u159 u160 u161 u162 u163 u164 u165 u166 u167 u168 u169 u170 u171 u172 u173 u174 u175 u176 u177 u178 u179 u180 u181 u182 u183 u184 u185 u186 u187 u188 u189 u190 u191 u192 u193 u194 u195 u196 u197 u198 u199 u200 u201 u202 u203 u204 u205 u206 u207 u208 u209 u210 u211 u212 u213 u214 u215 u216 u217 u218 u219 u220 u221 u222 u223 u224 u225 u226 u227 u228 u229 u230 u231 u232 u233 u234 u235 u236 u237 u238 u239 u240 u241 u242 u243 u244 u245 u246 u247 u248 u249 u250 u251 u252 u253 u254 u255 u256 u257 u258 u259 u260 u261 u262 u263 u264 u265 u266 u267 u268 u269 u270 u271 u272 u273 u274 u275 u276 : Value} {w : World} {O KB HB MB WB g L : Nat} {P : List Int} {F fW : Nat → Value} {mW : Nat → Int} (hmr : ∀ j, 0 ≤ mW j ∧ mW j < 4294967296) (hwd : Wd mW fW 16) (hbk : Bk w wr O KB HB MB WB g L P F fW) (Q0 : Exit → Act → World → Prop)
    (hexit : ∀ (v9 v10 v11 v95 v96 v97 v98 v99 v100 v101 v102 v103 v104 v105 v106 v107 v108 v109 v110 v111 v112 v113 v114 v115 v116 v117 v118 v119 v120 v121 v122 v123 v124 v125 v126 v127 v128 v129 v130 v131 v132 v133 v134 v135 v136 v137 v138 v139 v140 v141 v142 v143 v144 v145 v146 v147 : Value)  (fW : Nat → Value) (w' : World), Wd mW fW 64 ∧ Bk w w' O KB HB MB WB g L P F fW → Q0 .normal ⟨#[u0, u1, u2, u3, u4, u5, .pointer (some ⟨WB, 0, none⟩), u7, u8, v9, v10, v11, u12, u13, u14, u15, u16, u17, u18, u19, u20, u21, u22, u23, u24, u25, u26, u27, u28, u29, u30, u31, u32, u33, u34, u35, u36, u37, u38, u39, u40, u41, u42, u43, u44, u45, u46, u47, u48, u49, u50, u51, u52, u53, u54, u55, u56, u57, u58, u59, u60, u61, u62, u63, u64, u65, u66, u67, u68, u69, u70, u71, u72, u73, u74, u75, u76, u77, u78, u79, u80, u81, u82, u83, u84, u85, u86, u87, u88, u89, u90, u91, u92, u93, u94, v95, v96, v97, v98, v99, v100, v101, v102, v103, v104, v105, v106, v107, v108, v109, v110, v111, v112, v113, v114, v115, v116, v117, v118, v119, v120, v121, v122, v123, v124, v125, v126, v127, v128, v129, v130, v131, v132, v133, v134, v135, v136, v137, v138, v139, v140, v141, v142, v143, v144, v145, v146, v147, u148, u149, u150, u151, u152, u153, u154, u155, u156, u157, u158, u159, u160, u161, u162, u163, u164, u165, u166, u167, u168, u169, u170, u171, u172, u173, u174, u175, u176, u177, u178, u179, u180, u181, u182, u183, u184, u185, u186, u187, u188, u189, u190, u191, u192, u193, u194, u195, u196, u197, u198, u199, u200, u201, u202, u203, u204, u205, u206, u207, u208, u209, u210, u211, u212, u213, u214, u215, u216, u217, u218, u219, u220, u221, u222, u223, u224, u225, u226, u227, u228, u229, u230, u231, u232, u233, u234, u235, u236, u237, u238, u239, u240, u241, u242, u243, u244, u245, u246, u247, u248, u249, u250, u251, u252, u253, u254, u255, u256, u257, u258, u259, u260, u261, u262, u263, u264, u265, u266, u267, u268, u269, u270, u271, u272, u273, u274, u275, u276], []⟩ w') :
    Code.wp Try.prog sched64_code Q0 ⟨#[u0, u1, u2, u3, u4, u5, .pointer (some ⟨WB, 0, none⟩), u7, u8, .int .i64 16, u10, u11, u12, u13, u14, u15, u16, u17, u18, u19, u20, u21, u22, u23, u24, u25, u26, u27, u28, u29, u30, u31, u32, u33, u34, u35, u36, u37, u38, u39, u40, u41, u42, u43, u44, u45, u46, u47, u48, u49, u50, u51, u52, u53, u54, u55, u56, u57, u58, u59, u60, u61, u62, u63, u64, u65, u66, u67, u68, u69, u70, u71, u72, u73, u74, u75, u76, u77, u78, u79, u80, u81, u82, u83, u84, u85, u86, u87, u88, u89, u90, u91, u92, u93, u94, u95, u96, u97, u98, u99, u100, u101, u102, u103, u104, u105, u106, u107, u108, u109, u110, u111, u112, u113, u114, u115, u116, u117, u118, u119, u120, u121, u122, u123, u124, u125, u126, u127, u128, u129, u130, u131, u132, u133, u134, u135, u136, u137, u138, u139, u140, u141, u142, u143, u144, u145, u146, u147, u148, u149, u150, u151, u152, u153, u154, u155, u156, u157, u158, u159, u160, u161, u162, u163, u164, u165, u166, u167, u168, u169, u170, u171, u172, u173, u174, u175, u176, u177, u178, u179, u180, u181, u182, u183, u184, u185, u186, u187, u188, u189, u190, u191, u192, u193, u194, u195, u196, u197, u198, u199, u200, u201, u202, u203, u204, u205, u206, u207, u208, u209, u210, u211, u212, u213, u214, u215, u216, u217, u218, u219, u220, u221, u222, u223, u224, u225, u226, u227, u228, u229, u230, u231, u232, u233, u234, u235, u236, u237, u238, u239, u240, u241, u242, u243, u244, u245, u246, u247, u248, u249, u250, u251, u252, u253, u254, u255, u256, u257, u258, u259, u260, u261, u262, u263, u264, u265, u266, u267, u268, u269, u270, u271, u272, u273, u274, u275, u276], []⟩ wr := by
  have HE := Lib.hid hexit
  clear hexit
  conv => arg 2; whnf
  have HMR := Lib.hid hmr
  have HWe := Lib.hid hwd
  have HBk := Lib.hid hbk
  clear hmr hwd hbk
  go_wp2_with fail
  go_loopw [9] (fun s9 wr => ∃ (t : Nat) (fW : Nat → Value), s9 = .int .i64 t ∧ 16 ≤ t ∧ t ≤ 64 ∧ Hid (Wd mW fW t) ∧ Hid (Bk w wr O KB HB MB WB g L P F fW)) (fun s9 _ => 64 - (intOf s9).toNat)
  case atStart => exact ⟨16, fW, rfl, by omega, by omega, HWe, HBk⟩
  case round =>
    clear HBk HWe
    obtain ⟨t, fW, rfl, ht16, ht, HWd, HBk⟩ := hrel
    by_cases hlt : t < 64
    · clear HE
      have ht0 : (0 : Int) ≤ (t : Int) := by omega
      have ht1 : (t : Int) < 64 := by omega
      obtain ⟨t2, e2⟩ : ∃ t2, t2 + 2 = t := ⟨t - 2, by omega⟩
      obtain ⟨t7, e7⟩ : ∃ t7, t7 + 7 = t := ⟨t - 7, by omega⟩
      obtain ⟨t15, e15⟩ : ∃ t15, t15 + 15 = t := ⟨t - 15, by omega⟩
      obtain ⟨t16, e16⟩ : ∃ t16, t16 + 16 = t := ⟨t - 16, by omega⟩
      have i2 : (t : Int) - 2 = (t2 : Int) := by omega
      have i7 : (t : Int) - 7 = (t7 : Int) := by omega
      have i15 : (t : Int) - 15 = (t15 : Int) := by omega
      have i16 : (t : Int) - 16 = (t16 : Int) := by omega
      have z2 : (0 : Int) ≤ (t2 : Int) := by omega
      have z7 : (0 : Int) ≤ (t7 : Int) := by omega
      have z15 : (0 : Int) ≤ (t15 : Int) := by omega
      have z16 : (0 : Int) ≤ (t16 : Int) := by omega
      have w2 : IntKind.i64.wrap (t2 : Int) = (t2 : Int) := IntWalk.i64_in _ (by omega)
      have w7 : IntKind.i64.wrap (t7 : Int) = (t7 : Int) := IntWalk.i64_in _ (by omega)
      have w15 : IntKind.i64.wrap (t15 : Int) = (t15 : Int) := IntWalk.i64_in _ (by omega)
      have w16 : IntKind.i64.wrap (t16 : Int) = (t16 : Int) := IntWalk.i64_in _ (by omega)
      have l2 : (t2 : Int) < 64 := by omega
      have l7 : (t7 : Int) < 64 := by omega
      have l15 : (t15 : Int) < 64 := by omega
      have l16 : (t16 : Int) < 64 := by omega
      have HSC : Hid (sched mW t = (sched mW t16 + small (sched mW t15) 7 18 3 + sched mW t7 + small (sched mW t2) 17 19 10) % 4294967296) := Lib.hid (by
        rw [sched_alt _ _ ht16, show t - 2 = t2 by omega, show t - 7 = t7 by omega, show t - 15 = t15 by omega, show t - 16 = t16 by omega])
      have hmr := HMR.out
      have r2 := sched_range mW hmr t2
      have r15 := sched_range mW hmr t15
      have HT7 : Hid (∀ w, Calls Try.prog 22 #[.int .u32 (sched mW t15), .int .i64 7] w fun e w' => e = .returned (.int .u32 (rot (sched mW t15) 7)) ∧ ∃ d, w' = w.drewN d) := Lib.hid (fun w => turn_any _ 7 w r15.1 r15.2 (by omega) (by omega))
      have HT18 : Hid (∀ w, Calls Try.prog 22 #[.int .u32 (sched mW t15), .int .i64 18] w fun e w' => e = .returned (.int .u32 (rot (sched mW t15) 18)) ∧ ∃ d, w' = w.drewN d) := Lib.hid (fun w => turn_any _ 18 w r15.1 r15.2 (by omega) (by omega))
      have HT17 : Hid (∀ w, Calls Try.prog 22 #[.int .u32 (sched mW t2), .int .i64 17] w fun e w' => e = .returned (.int .u32 (rot (sched mW t2) 17)) ∧ ∃ d, w' = w.drewN d) := Lib.hid (fun w => turn_any _ 17 w r2.1 r2.2 (by omega) (by omega))
      have HT19 : Hid (∀ w, Calls Try.prog 22 #[.int .u32 (sched mW t2), .int .i64 19] w fun e w' => e = .returned (.int .u32 (rot (sched mW t2) 19)) ∧ ∃ d, w' = w.drewN d) := Lib.hid (fun w => turn_any _ 19 w r2.1 r2.2 (by omega) (by omega))
      have hall : ∀ j, j < t → wr.cell? ⟨WB, j, none⟩ = some (.int .u32 (sched mW j)) := fun j hj => by rw [HBk.out.rowW.cell (by omega), HWd.out j hj]
      have c2 := hall t2 (by omega)
      have c7 := hall t7 (by omega)
      have c15 := hall t15 (by omega)
      have c16 := hall t16 (by omega)
      have HW2 := Lib.hid (Wd.more HWd.out)
      obtain ⟨r2a, r2b⟩ := r2
      obtain ⟨r15a, r15b⟩ := r15
      clear hall hmr e2 e7 e15 e16 HWd
      generalize hX2 : sched mW t2 = X2 at *
      generalize hX7 : sched mW t7 = X7 at *
      generalize hX15 : sched mW t15 = X15 at *
      generalize hX16 : sched mW t16 = X16 at *
      clear hX2 hX7 hX15 hX16
      go_wp2_with fail
      go_quiet ((go_at_call 22; first | (with_reducible exact Calls.quiet_of (HT7.out _)) | (with_reducible exact Calls.quiet_of (HT18.out _))))
      have c2' : (wr.drewN nq).cell? ⟨WB, t2, none⟩ = some (.int .u32 X2) := c2
      have c7' : (wr.drewN nq).cell? ⟨WB, t7, none⟩ = some (.int .u32 X7) := c7
      have c16' : (wr.drewN nq).cell? ⟨WB, t16, none⟩ = some (.int .u32 X16) := c16
      have HBk1 : Hid (Bk w (wr.drewN nq) O KB HB MB WB g L P F fW) := Lib.hid (HBk.out.same rfl rfl rfl rfl)
      clear c2 c7 c15 c16 HBk HT7 HT18
      generalize wr.drewN nq = wr1 at *
      go_wp2_with fail
      go_quiet ((go_at_call 22; first | (with_reducible exact Calls.quiet_of (HT17.out _)) | (with_reducible exact Calls.quiet_of (HT19.out _))))
      have c7 : (wr1.drewN nq).cell? ⟨WB, t7, none⟩ = some (.int .u32 X7) := c7'
      have c16 : (wr1.drewN nq).cell? ⟨WB, t16, none⟩ = some (.int .u32 X16) := c16'
      have HBk2 : Hid (Bk w (wr1.drewN nq) O KB HB MB WB g L P F fW) := Lib.hid (HBk1.out.same rfl rfl rfl rfl)
      clear c2' c7' c16' HBk1 HT17 HT19
      generalize wr1.drewN nq = wr2 at *
      have hcW : wr2.cell? ⟨WB, t, none⟩ = some (fW t) := HBk2.out.rowW.cell (by omega)
      have hfW : wr2.frozen? ⟨WB, t, none⟩ = false := HBk2.out.rowW.frozen _
      have HB2 := Lib.hid (fun v : Value => HBk2.out.setW t v)
      clear HBk2
      go_wp2_with fail
      go_still_tail 15, (by kernel_rfl)
      change wpList _ _ _ _ _ wr2.drew
      have hcW' : wr2.drew.cell? ⟨WB, t, none⟩ = some (fW t) := hcW
      have hfW' : wr2.drew.frozen? ⟨WB, t, none⟩ = false := hfW
      go_wp2_with fail
      go_roundw
      case rel => exact ⟨t + 1, _, by go_num, by omega, by omega, HW2, Lib.hid (by
        rw [HSC.out]
        exact (HB2.out _).same rfl rfl rfl rfl)⟩
      case measure => simp [intOf]; omega
    · have HWe : Hid (Wd mW fW 64) := by
        have ht2 : t = 64 := by omega
        rw [← ht2]; exact HWd
      have hd64 : decide ((t : Int) < 64) = false := by simp; omega
      clear HWd ht
      go_wp2_with fail
      exact HE.out _ _ _ _ _ _ _ _ _ _ _ _ _ _ _ _ _ _ _ _ _ _ _ _ _ _ _ _ _ _ _ _ _ _ _ _ _ _ _ _ _ _ _ _ _ _ _ _ _ _ _ _ _ _ _ _ fW _ ⟨HWe.out, HBk.out⟩
end Go.Proofs.Ytgmcdkkjemjneaa.Sm
