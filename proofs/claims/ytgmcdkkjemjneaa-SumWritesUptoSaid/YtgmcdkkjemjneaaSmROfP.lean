/- The document's Of, cut into pieces. -/
import Derived.Test.YtgmcdkkjemjneaaSmROf0
import Derived.StillTailTactics
namespace Go.Proofs.Ytgmcdkkjemjneaa.Sm
open Go.RowKit
set_option linter.unusedVariables false

def blockOf (k : Nat) : Code → Option Code
  | .block n c => if n = k then some (.block n c) else blockOf k c
  | .seq a b => match blockOf k a with
    | some c => some c
    | none => blockOf k b
  | .loop c => blockOf k c
  | .scope c => blockOf k c
  | .cond _ a b => match blockOf k a with
    | some c => some c
    | none => blockOf k b
  | _ => none
/-- what a piece needs of the numbers -/
structure Nm (L C a : Nat) (P : List Int) : Prop where
  aL : a + 64 ≤ L
  big : L ≤ 1000000200
  cap : L ≤ C
  rng : ∀ i, i < L → 0 ≤ P.getD i 0 ∧ P.getD i 0 ≤ 255

noncomputable def words_code : Code := (Try.f10.body.bind (blockOf 4)).getD .skip
set_option maxRecDepth 1000000 in
set_option maxHeartbeats 4000000 in
theorem words (wr : World) {u0 u1 u2 u3 u4 u9 u10 u11 u12 u13 u14 u15 u16 u17 u18 u19 u20 u21 u22 u23 u24 u25 u26 u27 u28 u29 u30 u31 u32 u33 u34 u35 u36 u37 u38 u39 u40 u41 u42 u43 u44 u45 u46 u47 u48 u49 u50 u51 u52 u53 u54 u55 u56 u57 u58 u59 u60 u61 u62 u63 u64 u65 u66 u67 u68 u69 u70 u71 u72 u73 u74 u75 u76 u77 u78 u79 u80 u81 u82 u83 u84 u85 u86 u87 u88 u89 u90 u91 u92 u93 u94 u95 u96 u97 u98 u99 u100 u101 u102 u103 u104 u105 u106 u107 u108 u109 u110 u111 u112 u113 u114 u115 u116 u117 u118 u119 u120 u121 u122 u123 u124 u125 u126 u127 u128 u129 u130 u131 u132 u133 u134 u135 u136 u137 u138 u139 u140 u141 u142 u143 u144 u145 u146 u147 u148 u149 u150 u151 u152 u153 u154 u155 u156 u157 u158 u159 u160 u161 u162 u163 u164 u165 u166 u167 u168 u169 u170 u171 u172 u173 u174 u175 u176 u177 u178 u179 u180 u181 u182 u183 u184 u185 u186 u187 u188 u189 u190 u191 u192 u193 u194 u195 u196 u197 u198 u199 u200 u201 u202 u203 u204 u205 u206 u207 u208 u209 u210 u211 u212 u213 u214 u215 u216 u217 u218 u219 u220 u221 u222 u223 u224 u225 u226 u227 u228 u229 u230 u231 u232 u233 u234 u235 u236 u237 u238 u239 u240 u241 u242 u243 u244 u245 u246 u247 u248 u249 u250 u251 u252 u253 u254 u255 u256 u257 u258 u259 u260 u261 u262 u263 u264 u265 u266 u267 u268 u269 u270 u271 u272 u273 u274 u275 u276 : Value} {w : World} {O KB HB MB WB g L C a : Nat} {P : List Int} {F fW : Nat → Value} (hnm : Nm L C a P) (hbk : Bk w wr O KB HB MB WB g L P F fW) (Q0 : Exit → Act → World → Prop)
    (hexit : ∀ (v8 v48 v49 v50 v51 v52 v53 v54 v55 v56 v57 v58 v59 v60 v61 v62 v63 v64 v65 v66 v67 v68 v69 v70 v71 v72 v73 v74 v75 v76 v77 v78 v79 v80 v81 v82 v83 v84 v85 v86 v87 v88 v89 v90 v91 v92 v93 v94 : Value) (fW : Nat → Value) (w' : World), Wd (wordsOf ((P.drop a).take 64)) fW 16 ∧ Bk w w' O KB HB MB WB g L P F fW → Q0 .normal ⟨#[u0, u1, u2, u3, u4, .slice (some ⟨g, 0, none⟩) L C, .pointer (some ⟨WB, 0, none⟩), .int .i64 (a : Int), v8, u9, u10, u11, u12, u13, u14, u15, u16, u17, u18, u19, u20, u21, u22, u23, u24, u25, u26, u27, u28, u29, u30, u31, u32, u33, u34, u35, u36, u37, u38, u39, u40, u41, u42, u43, u44, u45, u46, u47, v48, v49, v50, v51, v52, v53, v54, v55, v56, v57, v58, v59, v60, v61, v62, v63, v64, v65, v66, v67, v68, v69, v70, v71, v72, v73, v74, v75, v76, v77, v78, v79, v80, v81, v82, v83, v84, v85, v86, v87, v88, v89, v90, v91, v92, v93, v94, u95, u96, u97, u98, u99, u100, u101, u102, u103, u104, u105, u106, u107, u108, u109, u110, u111, u112, u113, u114, u115, u116, u117, u118, u119, u120, u121, u122, u123, u124, u125, u126, u127, u128, u129, u130, u131, u132, u133, u134, u135, u136, u137, u138, u139, u140, u141, u142, u143, u144, u145, u146, u147, u148, u149, u150, u151, u152, u153, u154, u155, u156, u157, u158, u159, u160, u161, u162, u163, u164, u165, u166, u167, u168, u169, u170, u171, u172, u173, u174, u175, u176, u177, u178, u179, u180, u181, u182, u183, u184, u185, u186, u187, u188, u189, u190, u191, u192, u193, u194, u195, u196, u197, u198, u199, u200, u201, u202, u203, u204, u205, u206, u207, u208, u209, u210, u211, u212, u213, u214, u215, u216, u217, u218, u219, u220, u221, u222, u223, u224, u225, u226, u227, u228, u229, u230, u231, u232, u233, u234, u235, u236, u237, u238, u239, u240, u241, u242, u243, u244, u245, u246, u247, u248, u249, u250, u251, u252, u253, u254, u255, u256, u257, u258, u259, u260, u261, u262, u263, u264, u265, u266, u267, u268, u269, u270, u271, u272, u273, u274, u275, u276], []⟩ w') :
    Code.wp Try.prog words_code Q0 ⟨#[u0, u1, u2, u3, u4, .slice (some ⟨g, 0, none⟩) L C, .pointer (some ⟨WB, 0, none⟩), .int .i64 (a : Int), .int .i64 0, u9, u10, u11, u12, u13, u14, u15, u16, u17, u18, u19, u20, u21, u22, u23, u24, u25, u26, u27, u28, u29, u30, u31, u32, u33, u34, u35, u36, u37, u38, u39, u40, u41, u42, u43, u44, u45, u46, u47, u48, u49, u50, u51, u52, u53, u54, u55, u56, u57, u58, u59, u60, u61, u62, u63, u64, u65, u66, u67, u68, u69, u70, u71, u72, u73, u74, u75, u76, u77, u78, u79, u80, u81, u82, u83, u84, u85, u86, u87, u88, u89, u90, u91, u92, u93, u94, u95, u96, u97, u98, u99, u100, u101, u102, u103, u104, u105, u106, u107, u108, u109, u110, u111, u112, u113, u114, u115, u116, u117, u118, u119, u120, u121, u122, u123, u124, u125, u126, u127, u128, u129, u130, u131, u132, u133, u134, u135, u136, u137, u138, u139, u140, u141, u142, u143, u144, u145, u146, u147, u148, u149, u150, u151, u152, u153, u154, u155, u156, u157, u158, u159, u160, u161, u162, u163, u164, u165, u166, u167, u168, u169, u170, u171, u172, u173, u174, u175, u176, u177, u178, u179, u180, u181, u182, u183, u184, u185, u186, u187, u188, u189, u190, u191, u192, u193, u194, u195, u196, u197, u198, u199, u200, u201, u202, u203, u204, u205, u206, u207, u208, u209, u210, u211, u212, u213, u214, u215, u216, u217, u218, u219, u220, u221, u222, u223, u224, u225, u226, u227, u228, u229, u230, u231, u232, u233, u234, u235, u236, u237, u238, u239, u240, u241, u242, u243, u244, u245, u246, u247, u248, u249, u250, u251, u252, u253, u254, u255, u256, u257, u258, u259, u260, u261, u262, u263, u264, u265, u266, u267, u268, u269, u270, u271, u272, u273, u274, u275, u276], []⟩ wr := by
  have HE := Lib.hid hexit
  clear hexit
  conv => arg 2; whnf
  obtain ⟨haL, hLb, hLC, hPr⟩ := hnm
  have HPr := Lib.hid hPr
  have HBk := Lib.hid hbk
  clear hPr hbk
  obtain ⟨mW, hmW⟩ : ∃ mW, mW = wordsOf ((P.drop a).take 64) := ⟨_, rfl⟩
  rw [← hmW] at HE
  have HMW := Lib.hid hmW
  clear hmW
  go_wp2_with fail
  go_loopw [8] (fun s8 wr => ∃ (t : Nat) (fW : Nat → Value), s8 = .int .i64 t ∧ t ≤ 16 ∧ Hid (Wd mW fW t) ∧ Hid (Bk w wr O KB HB MB WB g L P F fW)) (fun s8 _ => 16 - (intOf s8).toNat)
  case atStart => exact ⟨0, fW, rfl, by omega, Lib.hid (fun j hj => absurd hj (by omega)), HBk⟩
  case round =>
    clear HBk
    obtain ⟨t, fW, rfl, ht, HWd, HBk⟩ := hrel
    by_cases hlt : t < 16
    · clear HE
      obtain ⟨b4, h4⟩ : ∃ b4, b4 = 4 * t := ⟨_, rfl⟩
      obtain ⟨p0, hp0⟩ : ∃ p0, p0 = a + b4 := ⟨_, rfl⟩
      obtain ⟨p1, hp1⟩ : ∃ p1, p1 = p0 + 1 := ⟨_, rfl⟩
      obtain ⟨p2, hp2⟩ : ∃ p2, p2 = p0 + 2 := ⟨_, rfl⟩
      obtain ⟨p3, hp3⟩ : ∃ p3, p3 = p0 + 3 := ⟨_, rfl⟩
      have i4 : 4 * (t : Int) = (b4 : Int) := by omega
      have j0 : (a : Int) + (b4 : Int) = (p0 : Int) := by omega
      have j1 : (p0 : Int) + 1 = (p1 : Int) := by omega
      have j2 : (p0 : Int) + 2 = (p2 : Int) := by omega
      have j3 : (p0 : Int) + 3 = (p3 : Int) := by omega
      have w4 : IntKind.i64.wrap (b4 : Int) = (b4 : Int) := IntWalk.i64_in _ (by omega)
      have w0 : IntKind.i64.wrap (p0 : Int) = (p0 : Int) := IntWalk.i64_in _ (by omega)
      have w1 : IntKind.i64.wrap (p1 : Int) = (p1 : Int) := IntWalk.i64_in _ (by omega)
      have w2 : IntKind.i64.wrap (p2 : Int) = (p2 : Int) := IntWalk.i64_in _ (by omega)
      have w3 : IntKind.i64.wrap (p3 : Int) = (p3 : Int) := IntWalk.i64_in _ (by omega)
      have z0 : (0 : Int) ≤ (p0 : Int) := by omega
      have z1 : (0 : Int) ≤ (p1 : Int) := by omega
      have z2 : (0 : Int) ≤ (p2 : Int) := by omega
      have z3 : (0 : Int) ≤ (p3 : Int) := by omega
      have l0 : (p0 : Int) < (L : Int) := by omega
      have l1 : (p1 : Int) < (L : Int) := by omega
      have l2 : (p2 : Int) < (L : Int) := by omega
      have l3 : (p3 : Int) < (L : Int) := by omega
      have ht0 : (0 : Int) ≤ (t : Int) := by omega
      have ht1 : (t : Int) < 16 := by omega
      have ht64 : (t : Int) < 64 := by omega
      have c0 : wr.cell? ⟨g, p0, none⟩ = some (.int .u8 (P.getD p0 0)) := HBk.out.byte p0 (by omega)
      have c1 : wr.cell? ⟨g, p1, none⟩ = some (.int .u8 (P.getD p1 0)) := HBk.out.byte p1 (by omega)
      have c2 : wr.cell? ⟨g, p2, none⟩ = some (.int .u8 (P.getD p2 0)) := HBk.out.byte p2 (by omega)
      have c3 : wr.cell? ⟨g, p3, none⟩ = some (.int .u8 (P.getD p3 0)) := HBk.out.byte p3 (by omega)
      obtain ⟨b0, b0'⟩ := HPr.out p0 (by omega)
      obtain ⟨b1, b1'⟩ := HPr.out p1 (by omega)
      obtain ⟨b2, b2'⟩ := HPr.out p2 (by omega)
      obtain ⟨b3, b3'⟩ := HPr.out p3 (by omega)
      have hv : word4 (P.getD p0 0) (P.getD p1 0) (P.getD p2 0) (P.getD p3 0) = sched mW t := by
        rw [HMW.out, sched_low _ _ hlt, wordsOf_block _ _ _ hlt, hp1, hp2, hp3, hp0, h4]
      have HV := Lib.hid hv
      have HW2 := Lib.hid (Wd.more HWd.out)
      have HB2 := Lib.hid (fun v : Value => HBk.out.setW t v)
      have hcW : wr.cell? ⟨WB, t, none⟩ = some (fW t) := HBk.out.rowW.cell (by omega)
      have hfW : wr.frozen? ⟨WB, t, none⟩ = false := HBk.out.rowW.frozen _
      clear hv h4 hp0 hp1 hp2 hp3 HWd HBk
      generalize P.getD p0 0 = x0 at *
      generalize P.getD p1 0 = x1 at *
      generalize P.getD p2 0 = x2 at *
      generalize P.getD p3 0 = x3 at *
      go_wp2_with fail
      go_still_tail 43, (by kernel_rfl)
      change wpList _ _ _ _ _ wr.drew
      have hcW' : wr.drew.cell? ⟨WB, t, none⟩ = some (fW t) := hcW
      have hfW' : wr.drew.frozen? ⟨WB, t, none⟩ = false := hfW
      go_wp2_with fail
      go_roundw
      case rel => exact ⟨t + 1, _, by go_num, by omega, HW2, Lib.hid (by
        show Bk w (World.drew (wr.setCell ⟨WB, t, none⟩ (.int .u32 (word4 x0 x1 x2 x3)))) O KB HB MB WB g L P F _
        rw [HV.out]
        exact (HB2.out _).same rfl rfl rfl rfl)⟩
      case measure => simp [intOf]; omega
    · have HWe : Hid (Wd mW fW 16) := by
        have ht2 : t = 16 := by omega
        rw [← ht2]; exact HWd
      have hd16 : decide ((t : Int) < 16) = false := by simp; omega
      clear HWd ht
      go_wp2_with fail
      exact HE.out _ _ _ _ _ _ _ _ _ _ _ _ _ _ _ _ _ _ _ _ _ _ _ _ _ _ _ _ _ _ _ _ _ _ _ _ _ _ _ _ _ _ _ _ _ _ _ _ fW _ ⟨HWe.out, HBk.out⟩
end Go.Proofs.Ytgmcdkkjemjneaa.Sm
