/- The document's Of: the sum's bytes are laid. -/
import Derived.Test.YtgmcdkkjemjneaaSmROfP
namespace Go.Proofs.Ytgmcdkkjemjneaa.Sm
open Go.RowKit
set_option linter.unusedVariables false

/-- what stands while the sum's bytes are laid -/
structure Lk (w wr : World) (O HB UB : Nat) (S : W8) (G : Nat → Value) : Prop where
  rowO : wr.rowIs O 27 32 (fun _ => .int .u8 0)
  rowH : wr.rowIs HB 49 8 (sF S)
  rowU : wr.rowIs UB 27 32 G
  bel : Below O w wr
  hOU : O < UB
  hHU : HB < UB
theorem Lk.set {w wr : World} {O HB UB : Nat} {S : W8} {G : Nat → Value} (h : Lk w wr O HB UB S G) (k : Nat) (v : Value) : Lk w (wr.setCell ⟨UB, k, none⟩ v) O HB UB S (fun j => if j = k then v else G j) :=
  ⟨h.rowO.setOther (Nat.ne_of_lt h.hOU) v, h.rowH.setOther (Nat.ne_of_lt h.hHU) v, h.rowU.set k v, h.bel.setCell (Nat.le_of_lt h.hOU) v, h.hOU, h.hHU⟩
/-- the bytes are laid up to k -/
def Gd (S : W8) (G : Nat → Value) (k : Nat) : Prop := ∀ j, j < k → G j = .int .u8 ((dig S).getD j 0)
theorem Gd.more {S : W8} {G : Nat → Value} {k : Nat} (h : Gd S G k) (x : Int) (hx : x = (dig S).getD k 0) : Gd S (fun j => if j = k then .int .u8 x else G j) (k + 1) := by
  intro j hj
  show (if j = k then Value.int .u8 x else G j) = _
  by_cases e : j = k
  · subst e; rw [if_pos rfl, hx]
  · rw [if_neg e]; exact h j (by omega)

noncomputable def out32_code : Code := (Try.f10.body.bind (blockOf 12)).getD .skip
set_option maxRecDepth 1000000 in
set_option maxHeartbeats 4000000 in
theorem out32 (wr : World) {u0 u1 u2 u3 u5 u6 u7 u8 u9 u10 u11 u12 u13 u14 u15 u16 u17 u18 u19 u22 u23 u24 u25 u26 u27 u28 u29 u30 u31 u32 u33 u34 u35 u36 u37 u38 u39 u40 u41 u42 u43 u44 u45 u46 u47 u48 u49 u50 u51 u52 u53 u54 u55 u56 u57 u58 u59 u60 u61 u62 u63 u64 u65 u66 u67 u68 u69 u70 u71 u72 u73 u74 u75 u76 u77 u78 u79 u80 u81 u82 u83 u84 u85 u86 u87 u88 u89 u90 u91 u92 u93 u94 u95 u96 u97 u98 u99 u100 u101 u102 u103 u104 u105 u106 u107 u108 u109 u110 u111 u112 u113 u114 u115 u116 u117 u118 u119 u120 u121 u122 u123 u124 u125 u126 u127 u128 u129 u130 u131 u132 u133 u134 u135 u136 u137 u138 u139 u140 u141 u142 u143 u144 u145 u146 u147 u148 u149 u150 u151 u152 u153 u154 u155 u156 u157 u158 u159 u160 u161 u162 u163 u164 u165 u166 u167 u168 u169 u170 u171 u172 u173 u174 u175 u176 u177 u178 u179 u180 u181 u182 u183 u184 u185 u186 u187 u188 u189 u190 u191 u192 u193 u194 u195 u196 u197 u198 u199 u200 u201 u202 u203 u204 u205 u206 u207 u208 u209 u210 u211 u212 u213 u214 u215 u216 u217 u218 u219 u220 u221 u222 u223 u224 u225 u226 u227 u228 u229 u230 u231 u232 u233 u234 u235 u236 u237 u238 u239 u240 u241 u242 u243 u244 u245 u246 u247 u248 u249 u250 u251 u252 u253 u254 u255 u256 u257 u258 u259 u260 u261 u262 u263 u264 u265 u266 u267 u268 u269 u270 u271 u272 u273 u274 u275 u276 : Value} {w : World} {O HB UB : Nat} {S : W8} {G : Nat → Value} (hok : S.ok) (hlk : Lk w wr O HB UB S G) (Q0 : Exit → Act → World → Prop)
    (hexit : ∀ (v21 v260 v261 v262 v263 v264 v265 v266 v267 v268 v269 v270 v271 v272 v273 v274 v275 : Value)  (G : Nat → Value) (w' : World), Gd S G 32 ∧ Lk w w' O HB UB S G → Q0 .normal ⟨#[u0, u1, u2, u3, .pointer (some ⟨HB, 0, none⟩), u5, u6, u7, u8, u9, u10, u11, u12, u13, u14, u15, u16, u17, u18, u19, .pointer (some ⟨UB, 0, none⟩), v21, u22, u23, u24, u25, u26, u27, u28, u29, u30, u31, u32, u33, u34, u35, u36, u37, u38, u39, u40, u41, u42, u43, u44, u45, u46, u47, u48, u49, u50, u51, u52, u53, u54, u55, u56, u57, u58, u59, u60, u61, u62, u63, u64, u65, u66, u67, u68, u69, u70, u71, u72, u73, u74, u75, u76, u77, u78, u79, u80, u81, u82, u83, u84, u85, u86, u87, u88, u89, u90, u91, u92, u93, u94, u95, u96, u97, u98, u99, u100, u101, u102, u103, u104, u105, u106, u107, u108, u109, u110, u111, u112, u113, u114, u115, u116, u117, u118, u119, u120, u121, u122, u123, u124, u125, u126, u127, u128, u129, u130, u131, u132, u133, u134, u135, u136, u137, u138, u139, u140, u141, u142, u143, u144, u145, u146, u147, u148, u149, u150, u151, u152, u153, u154, u155, u156, u157, u158, u159, u160, u161, u162, u163, u164, u165, u166, u167, u168, u169, u170, u171, u172, u173, u174, u175, u176, u177, u178, u179, u180, u181, u182, u183, u184, u185, u186, u187, u188, u189, u190, u191, u192, u193, u194, u195, u196, u197, u198, u199, u200, u201, u202, u203, u204, u205, u206, u207, u208, u209, u210, u211, u212, u213, u214, u215, u216, u217, u218, u219, u220, u221, u222, u223, u224, u225, u226, u227, u228, u229, u230, u231, u232, u233, u234, u235, u236, u237, u238, u239, u240, u241, u242, u243, u244, u245, u246, u247, u248, u249, u250, u251, u252, u253, u254, u255, u256, u257, u258, u259, v260, v261, v262, v263, v264, v265, v266, v267, v268, v269, v270, v271, v272, v273, v274, v275, u276], []⟩ w') :
    Code.wp Try.prog out32_code Q0 ⟨#[u0, u1, u2, u3, .pointer (some ⟨HB, 0, none⟩), u5, u6, u7, u8, u9, u10, u11, u12, u13, u14, u15, u16, u17, u18, u19, .pointer (some ⟨UB, 0, none⟩), .int .i64 0, u22, u23, u24, u25, u26, u27, u28, u29, u30, u31, u32, u33, u34, u35, u36, u37, u38, u39, u40, u41, u42, u43, u44, u45, u46, u47, u48, u49, u50, u51, u52, u53, u54, u55, u56, u57, u58, u59, u60, u61, u62, u63, u64, u65, u66, u67, u68, u69, u70, u71, u72, u73, u74, u75, u76, u77, u78, u79, u80, u81, u82, u83, u84, u85, u86, u87, u88, u89, u90, u91, u92, u93, u94, u95, u96, u97, u98, u99, u100, u101, u102, u103, u104, u105, u106, u107, u108, u109, u110, u111, u112, u113, u114, u115, u116, u117, u118, u119, u120, u121, u122, u123, u124, u125, u126, u127, u128, u129, u130, u131, u132, u133, u134, u135, u136, u137, u138, u139, u140, u141, u142, u143, u144, u145, u146, u147, u148, u149, u150, u151, u152, u153, u154, u155, u156, u157, u158, u159, u160, u161, u162, u163, u164, u165, u166, u167, u168, u169, u170, u171, u172, u173, u174, u175, u176, u177, u178, u179, u180, u181, u182, u183, u184, u185, u186, u187, u188, u189, u190, u191, u192, u193, u194, u195, u196, u197, u198, u199, u200, u201, u202, u203, u204, u205, u206, u207, u208, u209, u210, u211, u212, u213, u214, u215, u216, u217, u218, u219, u220, u221, u222, u223, u224, u225, u226, u227, u228, u229, u230, u231, u232, u233, u234, u235, u236, u237, u238, u239, u240, u241, u242, u243, u244, u245, u246, u247, u248, u249, u250, u251, u252, u253, u254, u255, u256, u257, u258, u259, u260, u261, u262, u263, u264, u265, u266, u267, u268, u269, u270, u271, u272, u273, u274, u275, u276], []⟩ wr := by
  have HE := Lib.hid hexit
  clear hexit
  conv => arg 2; whnf
  have HLk := Lib.hid hlk
  have HOk := Lib.hid hok
  clear hlk hok
  go_wp2_with fail
  go_loopw [21] (fun s21 wr => ∃ (k : Nat) (G : Nat → Value), s21 = .int .i64 k ∧ k ≤ 32 ∧ Hid (Gd S G k) ∧ Hid (Lk w wr O HB UB S G)) (fun s21 _ => 32 - (intOf s21).toNat)
  case atStart => exact ⟨0, G, rfl, by omega, Lib.hid (fun j hj => absurd hj (by omega)), HLk⟩
  case round =>
    clear HLk
    obtain ⟨k, G, rfl, hk, HG, HLk⟩ := hrel
    by_cases hlt : k < 32
    · clear HE
      obtain ⟨q, hq⟩ : ∃ q, q = k / 4 := ⟨_, rfl⟩
      obtain ⟨x, hx⟩ : ∃ x, x = S.at q := ⟨_, rfl⟩
      have hr := HOk.out q
      rw [← hx] at hr
      obtain ⟨x0, x1⟩ := hr
      have hq4 : (k : Int) / 4 = (q : Int) := by omega
      have hq0 : (0 : Int) ≤ (q : Int) := by omega
      have hq8 : (q : Int) < 8 := by omega
      have hk0 : (0 : Int) ≤ (k : Int) := by omega
      have hk1 : (k : Int) < 32 := by omega
      have ch : wr.cell? ⟨HB, q, none⟩ = some (.int .u32 x) := by
        rw [HLk.out.rowH.cell (by omega), hx]; rfl
      have hcu : wr.cell? ⟨UB, k, none⟩ = some (G k) := HLk.out.rowU.cell (by omega)
      have hfu : wr.frozen? ⟨UB, k, none⟩ = false := HLk.out.rowU.frozen _
      have HX := Lib.hid hx
      have HL2 := Lib.hid (fun v : Value => HLk.out.set k v)
      clear hx HLk
      rcases (show k % 4 = 0 ∨ k % 4 = 1 ∨ k % 4 = 2 ∨ k % 4 = 3 by omega) with hm | hm | hm | hm
      · have hm4 : (k : Int) % 4 = 0 := by omega
        have HG2 := Lib.hid (HG.out.more (x / 16777216) (by
          have h := dig_word S q 0 (by omega) (by omega)
          rw [show k = 4 * q + 0 by omega, h, HX.out]
          rfl))
        clear hm hq HG
        go_wp2_with fail
        go_roundw
        case rel => exact ⟨k + 1, _, by go_num, by omega, HG2, Lib.hid (HL2.out _)⟩
        case measure => simp [intOf]; omega
      · have hm4 : (k : Int) % 4 = 1 := by omega
        have HG2 := Lib.hid (HG.out.more (x / 65536 % 256) (by
          have h := dig_word S q 1 (by omega) (by omega)
          rw [show k = 4 * q + 1 by omega, h, HX.out]
          rfl))
        clear hm hq HG
        go_wp2_with fail
        go_roundw
        case rel => exact ⟨k + 1, _, by go_num, by omega, HG2, Lib.hid (HL2.out _)⟩
        case measure => simp [intOf]; omega
      · have hm4 : (k : Int) % 4 = 2 := by omega
        have HG2 := Lib.hid (HG.out.more (x / 256 % 256) (by
          have h := dig_word S q 2 (by omega) (by omega)
          rw [show k = 4 * q + 2 by omega, h, HX.out]
          rfl))
        clear hm hq HG
        go_wp2_with fail
        go_roundw
        case rel => exact ⟨k + 1, _, by go_num, by omega, HG2, Lib.hid (HL2.out _)⟩
        case measure => simp [intOf]; omega
      · have hm4 : (k : Int) % 4 = 3 := by omega
        have HG2 := Lib.hid (HG.out.more (x % 256) (by
          have h := dig_word S q 3 (by omega) (by omega)
          rw [show k = 4 * q + 3 by omega, h, HX.out]
          rfl))
        clear hm hq HG
        go_wp2_with fail
        go_roundw
        case rel => exact ⟨k + 1, _, by go_num, by omega, HG2, Lib.hid (HL2.out _)⟩
        case measure => simp [intOf]; omega
    · have hG : Hid (Gd S G 32) := Lib.hid (by
        have e2 : k = 32 := by omega
        rw [← e2]
        exact HG.out)
      have hd : decide ((k : Int) < 32) = false := by simp; omega
      clear HG hk
      go_wp2_with fail
      exact HE.out _ _ _ _ _ _ _ _ _ _ _ _ _ _ _ _ _ G _ ⟨hG.out, HLk.out⟩
end Go.Proofs.Ytgmcdkkjemjneaa.Sm
