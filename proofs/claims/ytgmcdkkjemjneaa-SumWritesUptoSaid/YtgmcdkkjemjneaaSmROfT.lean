/- The document's Of: the rounds' state is added. -/
import Derived.Test.YtgmcdkkjemjneaaSmROfP
namespace Go.Proofs.Ytgmcdkkjemjneaa.Sm
open Go.RowKit
set_option linter.unusedVariables false

noncomputable def mixed8_code : Code := (Try.f10.body.bind (blockOf 10)).getD .skip
set_option maxRecDepth 1000000 in
set_option maxHeartbeats 4000000 in
theorem mixed8 (wr : World) {u0 u1 u2 u3 u5 u6 u7 u8 u9 u10 u11 u13 u14 u15 u16 u17 u18 u20 u21 u22 u23 u24 u25 u26 u27 u28 u29 u30 u31 u32 u33 u34 u35 u36 u37 u38 u39 u40 u41 u42 u43 u44 u45 u46 u47 u48 u49 u50 u51 u52 u53 u54 u55 u56 u57 u58 u59 u60 u61 u62 u63 u64 u65 u66 u67 u68 u69 u70 u71 u72 u73 u74 u75 u76 u77 u78 u79 u80 u81 u82 u83 u84 u85 u86 u87 u88 u89 u90 u91 u92 u93 u94 u95 u96 u97 u98 u99 u100 u101 u102 u103 u104 u105 u106 u107 u108 u109 u110 u111 u112 u113 u114 u115 u116 u117 u118 u119 u120 u121 u122 u123 u124 u125 u126 u127 u128 u129 u130 u131 u132 u133 u134 u135 u136 u137 u138 u139 u140 u141 u142 u143 u144 u145 u146 u147 u148 u149 u150 u151 u152 u153 u154 u155 u156 u157 u158 u159 u160 u161 u162 u163 u164 u165 u166 u167 u168 u169 u170 u171 u172 u173 u174 u175 u176 u177 u178 u179 u180 u181 u182 u183 u184 u185 u186 u187 u188 u189 u190 u191 u192 u193 u194 u195 u196 u197 u198 u199 u200 u201 u202 u203 u204 u205 u206 u207 u208 u209 u210 u211 u212 u213 u214 u215 u216 u217 u218 u219 u220 u221 u222 u223 u224 u225 u226 u227 u228 u229 u230 u231 u232 u233 u234 u235 u236 u237 u238 u239 u240 u241 u242 u243 u244 u245 u246 u247 u248 u249 u250 u251 u252 u253 u254 u255 u256 u257 u258 u259 u260 u261 u262 u263 u264 u265 u266 u267 u268 u269 u270 u271 u272 u273 u274 u275 u276 : Value} {w : World} {O KB HB MB WB g L V : Nat} {P : List Int} {fW : Nat → Value} {S T : W8} (hvk : Vk w wr O KB HB MB WB g L P (sF S) fW V T) (Q0 : Exit → Act → World → Prop)
    (hexit : ∀ (v19 v247 v248 v249 v250 v251 v252 v253 v254 v255 v256 v257 v258 v259 : Value)  (w' : World), Vk w w' O KB HB MB WB g L P (sF (mixin S T)) fW V T → Q0 .normal ⟨#[u0, u1, u2, u3, .pointer (some ⟨HB, 0, none⟩), u5, u6, u7, u8, u9, u10, u11, .pointer (some ⟨V, 0, none⟩), u13, u14, u15, u16, u17, u18, v19, u20, u21, u22, u23, u24, u25, u26, u27, u28, u29, u30, u31, u32, u33, u34, u35, u36, u37, u38, u39, u40, u41, u42, u43, u44, u45, u46, u47, u48, u49, u50, u51, u52, u53, u54, u55, u56, u57, u58, u59, u60, u61, u62, u63, u64, u65, u66, u67, u68, u69, u70, u71, u72, u73, u74, u75, u76, u77, u78, u79, u80, u81, u82, u83, u84, u85, u86, u87, u88, u89, u90, u91, u92, u93, u94, u95, u96, u97, u98, u99, u100, u101, u102, u103, u104, u105, u106, u107, u108, u109, u110, u111, u112, u113, u114, u115, u116, u117, u118, u119, u120, u121, u122, u123, u124, u125, u126, u127, u128, u129, u130, u131, u132, u133, u134, u135, u136, u137, u138, u139, u140, u141, u142, u143, u144, u145, u146, u147, u148, u149, u150, u151, u152, u153, u154, u155, u156, u157, u158, u159, u160, u161, u162, u163, u164, u165, u166, u167, u168, u169, u170, u171, u172, u173, u174, u175, u176, u177, u178, u179, u180, u181, u182, u183, u184, u185, u186, u187, u188, u189, u190, u191, u192, u193, u194, u195, u196, u197, u198, u199, u200, u201, u202, u203, u204, u205, u206, u207, u208, u209, u210, u211, u212, u213, u214, u215, u216, u217, u218, u219, u220, u221, u222, u223, u224, u225, u226, u227, u228, u229, u230, u231, u232, u233, u234, u235, u236, u237, u238, u239, u240, u241, u242, u243, u244, u245, u246, v247, v248, v249, v250, v251, v252, v253, v254, v255, v256, v257, v258, v259, u260, u261, u262, u263, u264, u265, u266, u267, u268, u269, u270, u271, u272, u273, u274, u275, u276], []⟩ w') :
    Code.wp Try.prog mixed8_code Q0 ⟨#[u0, u1, u2, u3, .pointer (some ⟨HB, 0, none⟩), u5, u6, u7, u8, u9, u10, u11, .pointer (some ⟨V, 0, none⟩), u13, u14, u15, u16, u17, u18, .int .i64 0, u20, u21, u22, u23, u24, u25, u26, u27, u28, u29, u30, u31, u32, u33, u34, u35, u36, u37, u38, u39, u40, u41, u42, u43, u44, u45, u46, u47, u48, u49, u50, u51, u52, u53, u54, u55, u56, u57, u58, u59, u60, u61, u62, u63, u64, u65, u66, u67, u68, u69, u70, u71, u72, u73, u74, u75, u76, u77, u78, u79, u80, u81, u82, u83, u84, u85, u86, u87, u88, u89, u90, u91, u92, u93, u94, u95, u96, u97, u98, u99, u100, u101, u102, u103, u104, u105, u106, u107, u108, u109, u110, u111, u112, u113, u114, u115, u116, u117, u118, u119, u120, u121, u122, u123, u124, u125, u126, u127, u128, u129, u130, u131, u132, u133, u134, u135, u136, u137, u138, u139, u140, u141, u142, u143, u144, u145, u146, u147, u148, u149, u150, u151, u152, u153, u154, u155, u156, u157, u158, u159, u160, u161, u162, u163, u164, u165, u166, u167, u168, u169, u170, u171, u172, u173, u174, u175, u176, u177, u178, u179, u180, u181, u182, u183, u184, u185, u186, u187, u188, u189, u190, u191, u192, u193, u194, u195, u196, u197, u198, u199, u200, u201, u202, u203, u204, u205, u206, u207, u208, u209, u210, u211, u212, u213, u214, u215, u216, u217, u218, u219, u220, u221, u222, u223, u224, u225, u226, u227, u228, u229, u230, u231, u232, u233, u234, u235, u236, u237, u238, u239, u240, u241, u242, u243, u244, u245, u246, u247, u248, u249, u250, u251, u252, u253, u254, u255, u256, u257, u258, u259, u260, u261, u262, u263, u264, u265, u266, u267, u268, u269, u270, u271, u272, u273, u274, u275, u276], []⟩ wr := by
  have HE := Lib.hid hexit
  clear hexit
  conv => arg 2; whnf
  have HVk := Lib.hid (hvk.congr (fun j _ => mix_zero S T j))
  clear hvk
  go_wp2_with fail
  go_loopw [19] (fun s19 wr => ∃ (k : Nat), s19 = .int .i64 k ∧ k ≤ 8 ∧ Hid (Vk w wr O KB HB MB WB g L P (mixF (sF S) S T k) fW V T)) (fun s19 _ => 8 - (intOf s19).toNat)
  case atStart => exact ⟨0, rfl, by omega, HVk⟩
  case round =>
    clear HVk
    obtain ⟨k, rfl, hk, HVk⟩ := hrel
    by_cases hlt : k < 8
    · clear HE
      have hk0 : (0 : Int) ≤ (k : Int) := by omega
      have hk1 : (k : Int) < 8 := by omega
      have ch : wr.cell? ⟨HB, k, none⟩ = some (.int .u32 (S.at k)) := by
        rw [HVk.out.bk.rf.rowH.cell (by omega), mixF, if_neg (by omega)]; rfl
      have cv : wr.cell? ⟨V, k, none⟩ = some (.int .u32 (T.at k)) := HVk.out.rowV.cell (by omega)
      have hfh : wr.frozen? ⟨HB, k, none⟩ = false := HVk.out.bk.rf.rowH.frozen _
      have HB2 : Hid (Vk w (wr.setCell ⟨HB, k, none⟩ (.int .u32 (ad (S.at k) (T.at k)))) O KB HB MB WB g L P (mixF (sF S) S T (k + 1)) fW V T) := Lib.hid ((HVk.out.setH k (.int .u32 (ad (S.at k) (T.at k)))).congr (fun j _ => mix_step S T k j))
      rw [ad] at HB2
      clear HVk
      generalize S.at k = X at *
      generalize T.at k = Y at *
      go_wp2_with fail
      go_still_tail 9, (by kernel_rfl)
      change wpList _ _ _ _ _ wr.drew
      have ch' : wr.drew.cell? ⟨HB, k, none⟩ = some (.int .u32 X) := ch
      have hfh' : wr.drew.frozen? ⟨HB, k, none⟩ = false := hfh
      go_wp2_with fail
      go_roundw
      case rel => exact ⟨k + 1, by go_num, by omega, Lib.hid (HB2.out.same rfl rfl rfl rfl)⟩
      case measure => simp [intOf]; omega
    · have hV : Hid (Vk w wr O KB HB MB WB g L P (sF (mixin S T)) fW V T) := Lib.hid (by
        have e2 : k = 8 := by omega
        have h1 := HVk.out
        rw [e2] at h1
        exact h1.congr (fun j hj => mix_full S T j hj))
      have hd : decide ((k : Int) < 8) = false := by simp; omega
      clear HVk hk
      go_wp2_with fail
      exact HE.out _ _ _ _ _ _ _ _ _ _ _ _ _ _ _ hV.out
end Go.Proofs.Ytgmcdkkjemjneaa.Sm
