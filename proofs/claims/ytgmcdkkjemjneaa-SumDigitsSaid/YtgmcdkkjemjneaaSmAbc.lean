/- The sum of "abc": written by gen_abc.py. -/
import Derived.Test.YtgmcdkkjemjneaaSmOf
import Derived.KernelRfl
namespace Go.Proofs.Ytgmcdkkjemjneaa.Sm
open Go.RowKit
set_option linter.unusedVariables false

def abcL : List Int := [97, 98, 99, 128, 0, 0, 0, 0, 0, 0, 0, 0, 0, 0, 0, 0, 0, 0, 0, 0, 0, 0, 0, 0, 0, 0, 0, 0, 0, 0, 0, 0, 0, 0, 0, 0, 0, 0, 0, 0, 0, 0, 0, 0, 0, 0, 0, 0, 0, 0, 0, 0, 0, 0, 0, 0, 0, 0, 0, 0, 0, 0, 0, 24]
def abcM : Nat → Int := wordsOf abcL
theorem abc_s0 : sched abcM 0 = 1633837952 := by rw [sched_low _ _ (by omega)]; kernel_rfl
theorem abc_s1 : sched abcM 1 = 0 := by rw [sched_low _ _ (by omega)]; kernel_rfl
theorem abc_s2 : sched abcM 2 = 0 := by rw [sched_low _ _ (by omega)]; kernel_rfl
theorem abc_s3 : sched abcM 3 = 0 := by rw [sched_low _ _ (by omega)]; kernel_rfl
theorem abc_s4 : sched abcM 4 = 0 := by rw [sched_low _ _ (by omega)]; kernel_rfl
theorem abc_s5 : sched abcM 5 = 0 := by rw [sched_low _ _ (by omega)]; kernel_rfl
theorem abc_s6 : sched abcM 6 = 0 := by rw [sched_low _ _ (by omega)]; kernel_rfl
theorem abc_s7 : sched abcM 7 = 0 := by rw [sched_low _ _ (by omega)]; kernel_rfl
theorem abc_s8 : sched abcM 8 = 0 := by rw [sched_low _ _ (by omega)]; kernel_rfl
theorem abc_s9 : sched abcM 9 = 0 := by rw [sched_low _ _ (by omega)]; kernel_rfl
theorem abc_s10 : sched abcM 10 = 0 := by rw [sched_low _ _ (by omega)]; kernel_rfl
theorem abc_s11 : sched abcM 11 = 0 := by rw [sched_low _ _ (by omega)]; kernel_rfl
theorem abc_s12 : sched abcM 12 = 0 := by rw [sched_low _ _ (by omega)]; kernel_rfl
theorem abc_s13 : sched abcM 13 = 0 := by rw [sched_low _ _ (by omega)]; kernel_rfl
theorem abc_s14 : sched abcM 14 = 0 := by rw [sched_low _ _ (by omega)]; kernel_rfl
theorem abc_s15 : sched abcM 15 = 24 := by rw [sched_low _ _ (by omega)]; kernel_rfl
theorem abc_s16 : sched abcM 16 = 1633837952 := by
  rw [sched_high _ _ (by omega)]
  show ad (ad (ad (small (sched abcM 14) 17 19 10) (sched abcM 9)) (small (sched abcM 1) 7 18 3)) (sched abcM 0) = _
  rw [abc_s14, abc_s9, abc_s1, abc_s0]
  kernel_rfl
theorem abc_s17 : sched abcM 17 = 983040 := by
  rw [sched_high _ _ (by omega)]
  show ad (ad (ad (small (sched abcM 15) 17 19 10) (sched abcM 10)) (small (sched abcM 2) 7 18 3)) (sched abcM 1) = _
  rw [abc_s15, abc_s10, abc_s2, abc_s1]
  kernel_rfl
theorem abc_s18 : sched abcM 18 = 2108187653 := by
  rw [sched_high _ _ (by omega)]
  show ad (ad (ad (small (sched abcM 16) 17 19 10) (sched abcM 11)) (small (sched abcM 3) 7 18 3)) (sched abcM 2) = _
  rw [abc_s16, abc_s11, abc_s3, abc_s2]
  kernel_rfl
theorem abc_s19 : sched abcM 19 = 1610613702 := by
  rw [sched_high _ _ (by omega)]
  show ad (ad (ad (small (sched abcM 17) 17 19 10) (sched abcM 12)) (small (sched abcM 4) 7 18 3)) (sched abcM 3) = _
  rw [abc_s17, abc_s12, abc_s4, abc_s3]
  kernel_rfl
theorem abc_s20 : sched abcM 20 = 1050508152 := by
  rw [sched_high _ _ (by omega)]
  show ad (ad (ad (small (sched abcM 18) 17 19 10) (sched abcM 13)) (small (sched abcM 5) 7 18 3)) (sched abcM 4) = _
  rw [abc_s18, abc_s13, abc_s5, abc_s4]
  kernel_rfl
theorem abc_s21 : sched abcM 21 = 25426944 := by
  rw [sched_high _ _ (by omega)]
  show ad (ad (ad (small (sched abcM 19) 17 19 10) (sched abcM 14)) (small (sched abcM 6) 7 18 3)) (sched abcM 5) = _
  rw [abc_s19, abc_s14, abc_s6, abc_s5]
  kernel_rfl
theorem abc_s22 : sched abcM 22 = 316456923 := by
  rw [sched_high _ _ (by omega)]
  show ad (ad (ad (small (sched abcM 20) 17 19 10) (sched abcM 15)) (small (sched abcM 7) 7 18 3)) (sched abcM 6) = _
  rw [abc_s20, abc_s15, abc_s7, abc_s6]
  kernel_rfl
theorem abc_s23 : sched abcM 23 = 3806512014 := by
  rw [sched_high _ _ (by omega)]
  show ad (ad (ad (small (sched abcM 21) 17 19 10) (sched abcM 16)) (small (sched abcM 8) 7 18 3)) (sched abcM 7) = _
  rw [abc_s21, abc_s16, abc_s8, abc_s7]
  kernel_rfl
theorem abc_s24 : sched abcM 24 = 3357629466 := by
  rw [sched_high _ _ (by omega)]
  show ad (ad (ad (small (sched abcM 22) 17 19 10) (sched abcM 17)) (small (sched abcM 9) 7 18 3)) (sched abcM 8) = _
  rw [abc_s22, abc_s17, abc_s9, abc_s8]
  kernel_rfl
theorem abc_s25 : sched abcM 25 = 3073800610 := by
  rw [sched_high _ _ (by omega)]
  show ad (ad (ad (small (sched abcM 23) 17 19 10) (sched abcM 18)) (small (sched abcM 10) 7 18 3)) (sched abcM 9) = _
  rw [abc_s23, abc_s18, abc_s10, abc_s9]
  kernel_rfl
theorem abc_s26 : sched abcM 26 = 3854317833 := by
  rw [sched_high _ _ (by omega)]
  show ad (ad (ad (small (sched abcM 24) 17 19 10) (sched abcM 19)) (small (sched abcM 11) 7 18 3)) (sched abcM 10) = _
  rw [abc_s24, abc_s19, abc_s11, abc_s10]
  kernel_rfl
theorem abc_s27 : sched abcM 27 = 845560923 := by
  rw [sched_high _ _ (by omega)]
  show ad (ad (ad (small (sched abcM 25) 17 19 10) (sched abcM 20)) (small (sched abcM 12) 7 18 3)) (sched abcM 11) = _
  rw [abc_s25, abc_s20, abc_s12, abc_s11]
  kernel_rfl
theorem abc_s28 : sched abcM 28 = 2636160359 := by
  rw [sched_high _ _ (by omega)]
  show ad (ad (ad (small (sched abcM 26) 17 19 10) (sched abcM 21)) (small (sched abcM 13) 7 18 3)) (sched abcM 12) = _
  rw [abc_s26, abc_s21, abc_s13, abc_s12]
  kernel_rfl
theorem abc_s29 : sched abcM 29 = 3968280267 := by
  rw [sched_high _ _ (by omega)]
  show ad (ad (ad (small (sched abcM 27) 17 19 10) (sched abcM 22)) (small (sched abcM 14) 7 18 3)) (sched abcM 13) = _
  rw [abc_s27, abc_s22, abc_s14, abc_s13]
  kernel_rfl
theorem abc_s30 : sched abcM 30 = 1881225380 := by
  rw [sched_high _ _ (by omega)]
  show ad (ad (ad (small (sched abcM 28) 17 19 10) (sched abcM 23)) (small (sched abcM 15) 7 18 3)) (sched abcM 14) = _
  rw [abc_s28, abc_s23, abc_s15, abc_s14]
  kernel_rfl
theorem abc_s31 : sched abcM 31 = 3552024379 := by
  rw [sched_high _ _ (by omega)]
  show ad (ad (ad (small (sched abcM 29) 17 19 10) (sched abcM 24)) (small (sched abcM 16) 7 18 3)) (sched abcM 15) = _
  rw [abc_s29, abc_s24, abc_s16, abc_s15]
  kernel_rfl
theorem abc_s32 : sched abcM 32 = 2482346367 := by
  rw [sched_high _ _ (by omega)]
  show ad (ad (ad (small (sched abcM 30) 17 19 10) (sched abcM 25)) (small (sched abcM 17) 7 18 3)) (sched abcM 16) = _
  rw [abc_s30, abc_s25, abc_s17, abc_s16]
  kernel_rfl
theorem abc_s33 : sched abcM 33 = 996719219 := by
  rw [sched_high _ _ (by omega)]
  show ad (ad (ad (small (sched abcM 31) 17 19 10) (sched abcM 26)) (small (sched abcM 18) 7 18 3)) (sched abcM 17) = _
  rw [abc_s31, abc_s26, abc_s18, abc_s17]
  kernel_rfl
theorem abc_s34 : sched abcM 34 = 2952069057 := by
  rw [sched_high _ _ (by omega)]
  show ad (ad (ad (small (sched abcM 32) 17 19 10) (sched abcM 27)) (small (sched abcM 19) 7 18 3)) (sched abcM 18) = _
  rw [abc_s32, abc_s27, abc_s19, abc_s18]
  kernel_rfl
theorem abc_s35 : sched abcM 35 = 4043988066 := by
  rw [sched_high _ _ (by omega)]
  show ad (ad (ad (small (sched abcM 33) 17 19 10) (sched abcM 28)) (small (sched abcM 20) 7 18 3)) (sched abcM 19) = _
  rw [abc_s33, abc_s28, abc_s20, abc_s19]
  kernel_rfl
theorem abc_s36 : sched abcM 36 = 176896406 := by
  rw [sched_high _ _ (by omega)]
  show ad (ad (ad (small (sched abcM 34) 17 19 10) (sched abcM 29)) (small (sched abcM 21) 7 18 3)) (sched abcM 20) = _
  rw [abc_s34, abc_s29, abc_s21, abc_s20]
  kernel_rfl
theorem abc_s37 : sched abcM 37 = 1924104970 := by
  rw [sched_high _ _ (by omega)]
  show ad (ad (ad (small (sched abcM 35) 17 19 10) (sched abcM 30)) (small (sched abcM 22) 7 18 3)) (sched abcM 21) = _
  rw [abc_s35, abc_s30, abc_s22, abc_s21]
  kernel_rfl
theorem abc_s38 : sched abcM 38 = 2483675966 := by
  rw [sched_high _ _ (by omega)]
  show ad (ad (ad (small (sched abcM 36) 17 19 10) (sched abcM 31)) (small (sched abcM 23) 7 18 3)) (sched abcM 22) = _
  rw [abc_s36, abc_s31, abc_s23, abc_s22]
  kernel_rfl
theorem abc_s39 : sched abcM 39 = 610538786 := by
  rw [sched_high _ _ (by omega)]
  show ad (ad (ad (small (sched abcM 37) 17 19 10) (sched abcM 32)) (small (sched abcM 24) 7 18 3)) (sched abcM 23) = _
  rw [abc_s37, abc_s32, abc_s24, abc_s23]
  kernel_rfl
theorem abc_s40 : sched abcM 40 = 2672279444 := by
  rw [sched_high _ _ (by omega)]
  show ad (ad (ad (small (sched abcM 38) 17 19 10) (sched abcM 33)) (small (sched abcM 25) 7 18 3)) (sched abcM 24) = _
  rw [abc_s38, abc_s33, abc_s25, abc_s24]
  kernel_rfl
theorem abc_s41 : sched abcM 41 = 4037431130 := by
  rw [sched_high _ _ (by omega)]
  show ad (ad (ad (small (sched abcM 39) 17 19 10) (sched abcM 34)) (small (sched abcM 26) 7 18 3)) (sched abcM 25) = _
  rw [abc_s39, abc_s34, abc_s26, abc_s25]
  kernel_rfl
theorem abc_s42 : sched abcM 42 = 1042573945 := by
  rw [sched_high _ _ (by omega)]
  show ad (ad (ad (small (sched abcM 40) 17 19 10) (sched abcM 35)) (small (sched abcM 27) 7 18 3)) (sched abcM 26) = _
  rw [abc_s40, abc_s35, abc_s27, abc_s26]
  kernel_rfl
theorem abc_s43 : sched abcM 43 = 657669027 := by
  rw [sched_high _ _ (by omega)]
  show ad (ad (ad (small (sched abcM 41) 17 19 10) (sched abcM 36)) (small (sched abcM 28) 7 18 3)) (sched abcM 27) = _
  rw [abc_s41, abc_s36, abc_s28, abc_s27]
  kernel_rfl
theorem abc_s44 : sched abcM 44 = 206005234 := by
  rw [sched_high _ _ (by omega)]
  show ad (ad (ad (small (sched abcM 42) 17 19 10) (sched abcM 37)) (small (sched abcM 29) 7 18 3)) (sched abcM 28) = _
  rw [abc_s42, abc_s37, abc_s29, abc_s28]
  kernel_rfl
theorem abc_s45 : sched abcM 45 = 2215296807 := by
  rw [sched_high _ _ (by omega)]
  show ad (ad (ad (small (sched abcM 43) 17 19 10) (sched abcM 38)) (small (sched abcM 30) 7 18 3)) (sched abcM 29) = _
  rw [abc_s43, abc_s38, abc_s30, abc_s29]
  kernel_rfl
theorem abc_s46 : sched abcM 46 = 2049510749 := by
  rw [sched_high _ _ (by omega)]
  show ad (ad (ad (small (sched abcM 44) 17 19 10) (sched abcM 39)) (small (sched abcM 31) 7 18 3)) (sched abcM 30) = _
  rw [abc_s44, abc_s39, abc_s31, abc_s30]
  kernel_rfl
theorem abc_s47 : sched abcM 47 = 106709978 := by
  rw [sched_high _ _ (by omega)]
  show ad (ad (ad (small (sched abcM 45) 17 19 10) (sched abcM 40)) (small (sched abcM 32) 7 18 3)) (sched abcM 31) = _
  rw [abc_s45, abc_s40, abc_s32, abc_s31]
  kernel_rfl
theorem abc_s48 : sched abcM 48 = 4215179723 := by
  rw [sched_high _ _ (by omega)]
  show ad (ad (ad (small (sched abcM 46) 17 19 10) (sched abcM 41)) (small (sched abcM 33) 7 18 3)) (sched abcM 32) = _
  rw [abc_s46, abc_s41, abc_s33, abc_s32]
  kernel_rfl
theorem abc_s49 : sched abcM 49 = 3430291419 := by
  rw [sched_high _ _ (by omega)]
  show ad (ad (ad (small (sched abcM 47) 17 19 10) (sched abcM 42)) (small (sched abcM 34) 7 18 3)) (sched abcM 33) = _
  rw [abc_s47, abc_s42, abc_s34, abc_s33]
  kernel_rfl
theorem abc_s50 : sched abcM 50 = 3118885940 := by
  rw [sched_high _ _ (by omega)]
  show ad (ad (ad (small (sched abcM 48) 17 19 10) (sched abcM 43)) (small (sched abcM 35) 7 18 3)) (sched abcM 34) = _
  rw [abc_s48, abc_s43, abc_s35, abc_s34]
  kernel_rfl
theorem abc_s51 : sched abcM 51 = 2845390439 := by
  rw [sched_high _ _ (by omega)]
  show ad (ad (ad (small (sched abcM 49) 17 19 10) (sched abcM 44)) (small (sched abcM 36) 7 18 3)) (sched abcM 35) = _
  rw [abc_s49, abc_s44, abc_s36, abc_s35]
  kernel_rfl
theorem abc_s52 : sched abcM 52 = 2226839261 := by
  rw [sched_high _ _ (by omega)]
  show ad (ad (ad (small (sched abcM 50) 17 19 10) (sched abcM 45)) (small (sched abcM 37) 7 18 3)) (sched abcM 36) = _
  rw [abc_s50, abc_s45, abc_s37, abc_s36]
  kernel_rfl
theorem abc_s53 : sched abcM 53 = 3256115900 := by
  rw [sched_high _ _ (by omega)]
  show ad (ad (ad (small (sched abcM 51) 17 19 10) (sched abcM 46)) (small (sched abcM 38) 7 18 3)) (sched abcM 37) = _
  rw [abc_s51, abc_s46, abc_s38, abc_s37]
  kernel_rfl
theorem abc_s54 : sched abcM 54 = 344409900 := by
  rw [sched_high _ _ (by omega)]
  show ad (ad (ad (small (sched abcM 52) 17 19 10) (sched abcM 47)) (small (sched abcM 39) 7 18 3)) (sched abcM 38) = _
  rw [abc_s52, abc_s47, abc_s39, abc_s38]
  kernel_rfl
theorem abc_s55 : sched abcM 55 = 2987358873 := by
  rw [sched_high _ _ (by omega)]
  show ad (ad (ad (small (sched abcM 53) 17 19 10) (sched abcM 48)) (small (sched abcM 40) 7 18 3)) (sched abcM 39) = _
  rw [abc_s53, abc_s48, abc_s40, abc_s39]
  kernel_rfl
theorem abc_s56 : sched abcM 56 = 4015503821 := by
  rw [sched_high _ _ (by omega)]
  show ad (ad (ad (small (sched abcM 54) 17 19 10) (sched abcM 49)) (small (sched abcM 41) 7 18 3)) (sched abcM 40) = _
  rw [abc_s54, abc_s49, abc_s41, abc_s40]
  kernel_rfl
theorem abc_s57 : sched abcM 57 = 3957764664 := by
  rw [sched_high _ _ (by omega)]
  show ad (ad (ad (small (sched abcM 55) 17 19 10) (sched abcM 50)) (small (sched abcM 42) 7 18 3)) (sched abcM 41) = _
  rw [abc_s55, abc_s50, abc_s42, abc_s41]
  kernel_rfl
theorem abc_s58 : sched abcM 58 = 2682456414 := by
  rw [sched_high _ _ (by omega)]
  show ad (ad (ad (small (sched abcM 56) 17 19 10) (sched abcM 51)) (small (sched abcM 43) 7 18 3)) (sched abcM 42) = _
  rw [abc_s56, abc_s51, abc_s43, abc_s42]
  kernel_rfl
theorem abc_s59 : sched abcM 59 = 2025622859 := by
  rw [sched_high _ _ (by omega)]
  show ad (ad (ad (small (sched abcM 57) 17 19 10) (sched abcM 52)) (small (sched abcM 44) 7 18 3)) (sched abcM 43) = _
  rw [abc_s57, abc_s52, abc_s44, abc_s43]
  kernel_rfl
theorem abc_s60 : sched abcM 60 = 2755645205 := by
  rw [sched_high _ _ (by omega)]
  show ad (ad (ad (small (sched abcM 58) 17 19 10) (sched abcM 53)) (small (sched abcM 45) 7 18 3)) (sched abcM 44) = _
  rw [abc_s58, abc_s53, abc_s45, abc_s44]
  kernel_rfl
theorem abc_s61 : sched abcM 61 = 1720397816 := by
  rw [sched_high _ _ (by omega)]
  show ad (ad (ad (small (sched abcM 59) 17 19 10) (sched abcM 54)) (small (sched abcM 46) 7 18 3)) (sched abcM 45) = _
  rw [abc_s59, abc_s54, abc_s46, abc_s45]
  kernel_rfl
theorem abc_s62 : sched abcM 62 = 4004225740 := by
  rw [sched_high _ _ (by omega)]
  show ad (ad (ad (small (sched abcM 60) 17 19 10) (sched abcM 55)) (small (sched abcM 47) 7 18 3)) (sched abcM 46) = _
  rw [abc_s60, abc_s55, abc_s47, abc_s46]
  kernel_rfl
theorem abc_s63 : sched abcM 63 = 313650667 := by
  rw [sched_high _ _ (by omega)]
  show ad (ad (ad (small (sched abcM 61) 17 19 10) (sched abcM 56)) (small (sched abcM 48) 7 18 3)) (sched abcM 47) = _
  rw [abc_s61, abc_s56, abc_s48, abc_s47]
  kernel_rfl
theorem abc_r0 : steps kf (sched abcM) 0 init = ⟨1779033703, 3144134277, 1013904242, 2773480762, 1359893119, 2600822924, 528734635, 1541459225⟩ := rfl
theorem abc_r1 : steps kf (sched abcM) 1 init = ⟨1567288269, 1779033703, 3144134277, 1013904242, 4197074466, 1359893119, 2600822924, 528734635⟩ := by
  rw [steps, abc_r0, abc_s0]
  kernel_rfl
theorem abc_r2 : steps kf (sched abcM) 2 init = ⟨1516951981, 1567288269, 1779033703, 3144134277, 2026797449, 4197074466, 1359893119, 2600822924⟩ := by
  rw [steps, abc_r1, abc_s1]
  kernel_rfl
theorem abc_r3 : steps kf (sched abcM) 3 init = ⟨3368241063, 1516951981, 1567288269, 1779033703, 4180228587, 2026797449, 4197074466, 1359893119⟩ := by
  rw [steps, abc_r2, abc_s2]
  kernel_rfl
theorem abc_r4 : steps kf (sched abcM) 4 init = ⟨3578852966, 3368241063, 1516951981, 1567288269, 618661968, 4180228587, 2026797449, 4197074466⟩ := by
  rw [steps, abc_r3, abc_s3]
  kernel_rfl
theorem abc_r5 : steps kf (sched abcM) 5 init = ⟨71342698, 3578852966, 3368241063, 1516951981, 1135452741, 618661968, 4180228587, 2026797449⟩ := by
  rw [steps, abc_r4, abc_s4]
  kernel_rfl
theorem abc_r6 : steps kf (sched abcM) 6 init = ⟨725748213, 71342698, 3578852966, 3368241063, 1900175533, 1135452741, 618661968, 4180228587⟩ := by
  rw [steps, abc_r5, abc_s5]
  kernel_rfl
theorem abc_r7 : steps kf (sched abcM) 7 init = ⟨3842179968, 725748213, 71342698, 3578852966, 2603066369, 1900175533, 1135452741, 618661968⟩ := by
  rw [steps, abc_r6, abc_s6]
  kernel_rfl
theorem abc_r8 : steps kf (sched abcM) 8 init = ⟨2241887071, 3842179968, 725748213, 71342698, 207977081, 2603066369, 1900175533, 1135452741⟩ := by
  rw [steps, abc_r7, abc_s7]
  kernel_rfl
theorem abc_r9 : steps kf (sched abcM) 9 init = ⟨2382687417, 2241887071, 3842179968, 725748213, 852110732, 207977081, 2603066369, 1900175533⟩ := by
  rw [steps, abc_r8, abc_s8]
  kernel_rfl
theorem abc_r10 : steps kf (sched abcM) 10 init = ⟨2357671019, 2382687417, 2241887071, 3842179968, 482944406, 852110732, 207977081, 2603066369⟩ := by
  rw [steps, abc_r9, abc_s9]
  kernel_rfl
theorem abc_r11 : steps kf (sched abcM) 11 init = ⟨1201185780, 2357671019, 2382687417, 2241887071, 1131095016, 482944406, 852110732, 207977081⟩ := by
  rw [steps, abc_r10, abc_s10]
  kernel_rfl
theorem abc_r12 : steps kf (sched abcM) 12 init = ⟨4146054569, 1201185780, 2357671019, 2382687417, 2171590377, 1131095016, 482944406, 852110732⟩ := by
  rw [steps, abc_r11, abc_s11]
  kernel_rfl
theorem abc_r13 : steps kf (sched abcM) 13 init = ⟨2274437520, 4146054569, 1201185780, 2357671019, 509051416, 2171590377, 1131095016, 482944406⟩ := by
  rw [steps, abc_r12, abc_s12]
  kernel_rfl
theorem abc_r14 : steps kf (sched abcM) 14 init = ⟨3643992854, 2274437520, 4146054569, 1201185780, 1952073950, 509051416, 2171590377, 1131095016⟩ := by
  rw [steps, abc_r13, abc_s13]
  kernel_rfl
theorem abc_r15 : steps kf (sched abcM) 15 init = ⟨3227803614, 3643992854, 2274437520, 4146054569, 194179596, 1952073950, 509051416, 2171590377⟩ := by
  rw [steps, abc_r14, abc_s14]
  kernel_rfl
theorem abc_r16 : steps kf (sched abcM) 16 init = ⟨2969183118, 3227803614, 3643992854, 2274437520, 123276749, 194179596, 1952073950, 509051416⟩ := by
  rw [steps, abc_r15, abc_s15]
  kernel_rfl
theorem abc_r17 : steps kf (sched abcM) 17 init = ⟨567974555, 2969183118, 3227803614, 3643992854, 2150900380, 123276749, 194179596, 1952073950⟩ := by
  rw [steps, abc_r16, abc_s16]
  kernel_rfl
theorem abc_r18 : steps kf (sched abcM) 18 init = ⟨3271285201, 567974555, 2969183118, 3227803614, 2221859924, 2150900380, 123276749, 194179596⟩ := by
  rw [steps, abc_r17, abc_s17]
  kernel_rfl
theorem abc_r19 : steps kf (sched abcM) 19 init = ⟨4269243327, 3271285201, 567974555, 2969183118, 3431569761, 2221859924, 2150900380, 123276749⟩ := by
  rw [steps, abc_r18, abc_s18]
  kernel_rfl
theorem abc_r20 : steps kf (sched abcM) 20 init = ⟨3790736435, 4269243327, 3271285201, 567974555, 2959311225, 3431569761, 2221859924, 2150900380⟩ := by
  rw [steps, abc_r19, abc_s19]
  kernel_rfl
theorem abc_r21 : steps kf (sched abcM) 21 init = ⟨2647034723, 3790736435, 4269243327, 3271285201, 2329577776, 2959311225, 3431569761, 2221859924⟩ := by
  rw [steps, abc_r20, abc_s20]
  kernel_rfl
theorem abc_r22 : steps kf (sched abcM) 22 init = ⟨3261099373, 2647034723, 3790736435, 4269243327, 3777329520, 2329577776, 2959311225, 3431569761⟩ := by
  rw [steps, abc_r21, abc_s21]
  kernel_rfl
theorem abc_r23 : steps kf (sched abcM) 23 init = ⟨2812502591, 3261099373, 2647034723, 3790736435, 1240797514, 3777329520, 2329577776, 2959311225⟩ := by
  rw [steps, abc_r22, abc_s22]
  kernel_rfl
theorem abc_r24 : steps kf (sched abcM) 24 init = ⟨3319086477, 2812502591, 3261099373, 2647034723, 2856829767, 1240797514, 3777329520, 2329577776⟩ := by
  rw [steps, abc_r23, abc_s23]
  kernel_rfl
theorem abc_r25 : steps kf (sched abcM) 25 init = ⟨472655928, 3319086477, 2812502591, 3261099373, 673443729, 2856829767, 1240797514, 3777329520⟩ := by
  rw [steps, abc_r24, abc_s24]
  kernel_rfl
theorem abc_r26 : steps kf (sched abcM) 26 init = ⟨3454534525, 472655928, 3319086477, 2812502591, 339230094, 673443729, 2856829767, 1240797514⟩ := by
  rw [steps, abc_r25, abc_s25]
  kernel_rfl
theorem abc_r27 : steps kf (sched abcM) 27 init = ⟨3056518332, 3454534525, 472655928, 3319086477, 3343672598, 339230094, 673443729, 2856829767⟩ := by
  rw [steps, abc_r26, abc_s26]
  kernel_rfl
theorem abc_r28 : steps kf (sched abcM) 28 init = ⟨2010346792, 3056518332, 3454534525, 472655928, 3992961016, 3343672598, 339230094, 673443729⟩ := by
  rw [steps, abc_r27, abc_s27]
  kernel_rfl
theorem abc_r29 : steps kf (sched abcM) 29 init = ⟨909411017, 2010346792, 3056518332, 3454534525, 1628611511, 3992961016, 3343672598, 339230094⟩ := by
  rw [steps, abc_r28, abc_s28]
  kernel_rfl
theorem abc_r30 : steps kf (sched abcM) 30 init = ⟨2684750640, 909411017, 2010346792, 3056518332, 2917635127, 1628611511, 3992961016, 3343672598⟩ := by
  rw [steps, abc_r29, abc_s29]
  kernel_rfl
theorem abc_r31 : steps kf (sched abcM) 31 init = ⟨3935906338, 2684750640, 909411017, 2010346792, 17410874, 2917635127, 1628611511, 3992961016⟩ := by
  rw [steps, abc_r30, abc_s30]
  kernel_rfl
theorem abc_r32 : steps kf (sched abcM) 32 init = ⟨1941126133, 3935906338, 2684750640, 909411017, 3126399250, 17410874, 2917635127, 1628611511⟩ := by
  rw [steps, abc_r31, abc_s31]
  kernel_rfl
theorem abc_r33 : steps kf (sched abcM) 33 init = ⟨2564891911, 1941126133, 3935906338, 2684750640, 2631529974, 3126399250, 17410874, 2917635127⟩ := by
  rw [steps, abc_r32, abc_s32]
  kernel_rfl
theorem abc_r34 : steps kf (sched abcM) 34 init = ⟨4267724277, 2564891911, 1941126133, 3935906338, 1495571923, 2631529974, 3126399250, 17410874⟩ := by
  rw [steps, abc_r33, abc_s33]
  kernel_rfl
theorem abc_r35 : steps kf (sched abcM) 35 init = ⟨2846323596, 4267724277, 2564891911, 1941126133, 140458035, 1495571923, 2631529974, 3126399250⟩ := by
  rw [steps, abc_r34, abc_s34]
  kernel_rfl
theorem abc_r36 : steps kf (sched abcM) 36 init = ⟨1705037796, 2846323596, 4267724277, 2564891911, 4105175766, 140458035, 1495571923, 2631529974⟩ := by
  rw [steps, abc_r35, abc_s35]
  kernel_rfl
theorem abc_r37 : steps kf (sched abcM) 37 init = ⟨1101421745, 1705037796, 2846323596, 4267724277, 124953195, 4105175766, 140458035, 1495571923⟩ := by
  rw [steps, abc_r36, abc_s36]
  kernel_rfl
theorem abc_r38 : steps kf (sched abcM) 38 init = ⟨887035396, 1101421745, 1705037796, 2846323596, 2768741693, 124953195, 4105175766, 140458035⟩ := by
  rw [steps, abc_r37, abc_s37]
  kernel_rfl
theorem abc_r39 : steps kf (sched abcM) 39 init = ⟨1841658506, 887035396, 1101421745, 1705037796, 4034403272, 2768741693, 124953195, 4105175766⟩ := by
  rw [steps, abc_r38, abc_s38]
  kernel_rfl
theorem abc_r40 : steps kf (sched abcM) 40 init = ⟨2045405306, 1841658506, 887035396, 1101421745, 519815328, 4034403272, 2768741693, 124953195⟩ := by
  rw [steps, abc_r39, abc_s39]
  kernel_rfl
theorem abc_r41 : steps kf (sched abcM) 41 init = ⟨3597076326, 2045405306, 1841658506, 887035396, 641019235, 519815328, 4034403272, 2768741693⟩ := by
  rw [steps, abc_r40, abc_s40]
  kernel_rfl
theorem abc_r42 : steps kf (sched abcM) 42 init = ⟨3745932591, 3597076326, 2045405306, 1841658506, 2206934801, 641019235, 519815328, 4034403272⟩ := by
  rw [steps, abc_r41, abc_s41]
  kernel_rfl
theorem abc_r43 : steps kf (sched abcM) 43 init = ⟨397020670, 3745932591, 3597076326, 2045405306, 3737995029, 2206934801, 641019235, 519815328⟩ := by
  rw [steps, abc_r42, abc_s42]
  kernel_rfl
theorem abc_r44 : steps kf (sched abcM) 44 init = ⟨2638983059, 397020670, 3745932591, 3597076326, 4255271982, 3737995029, 2206934801, 641019235⟩ := by
  rw [steps, abc_r43, abc_s43]
  kernel_rfl
theorem abc_r45 : steps kf (sched abcM) 45 init = ⟨643991573, 2638983059, 397020670, 3745932591, 2819559920, 4255271982, 3737995029, 2206934801⟩ := by
  rw [steps, abc_r44, abc_s44]
  kernel_rfl
theorem abc_r46 : steps kf (sched abcM) 46 init = ⟨1923828625, 643991573, 2638983059, 397020670, 3077922209, 2819559920, 4255271982, 3737995029⟩ := by
  rw [steps, abc_r45, abc_s45]
  kernel_rfl
theorem abc_r47 : steps kf (sched abcM) 47 init = ⟨2706117808, 1923828625, 643991573, 2638983059, 3581645993, 3077922209, 2819559920, 4255271982⟩ := by
  rw [steps, abc_r46, abc_s46]
  kernel_rfl
theorem abc_r48 : steps kf (sched abcM) 48 init = ⟨1098003085, 2706117808, 1923828625, 643991573, 4274981830, 3581645993, 3077922209, 2819559920⟩ := by
  rw [steps, abc_r47, abc_s47]
  kernel_rfl
theorem abc_r49 : steps kf (sched abcM) 49 init = ⟨91585771, 1098003085, 2706117808, 1923828625, 3178315832, 4274981830, 3581645993, 3077922209⟩ := by
  rw [steps, abc_r48, abc_s48]
  kernel_rfl
theorem abc_r50 : steps kf (sched abcM) 50 init = ⟨4045142696, 91585771, 1098003085, 2706117808, 1851537676, 3178315832, 4274981830, 3581645993⟩ := by
  rw [steps, abc_r49, abc_s49]
  kernel_rfl
theorem abc_r51 : steps kf (sched abcM) 51 init = ⟨2047150241, 4045142696, 91585771, 1098003085, 1391578359, 1851537676, 3178315832, 4274981830⟩ := by
  rw [steps, abc_r50, abc_s50]
  kernel_rfl
theorem abc_r52 : steps kf (sched abcM) 52 init = ⟨2288941602, 2047150241, 4045142696, 91585771, 1227037726, 1391578359, 1851537676, 3178315832⟩ := by
  rw [steps, abc_r51, abc_s51]
  kernel_rfl
theorem abc_r53 : steps kf (sched abcM) 53 init = ⟨270520975, 2288941602, 2047150241, 4045142696, 1386118400, 1227037726, 1391578359, 1851537676⟩ := by
  rw [steps, abc_r52, abc_s52]
  kernel_rfl
theorem abc_r54 : steps kf (sched abcM) 54 init = ⟨4117770203, 270520975, 2288941602, 2047150241, 2672265155, 1386118400, 1227037726, 1391578359⟩ := by
  rw [steps, abc_r53, abc_s53]
  kernel_rfl
theorem abc_r55 : steps kf (sched abcM) 55 init = ⟨1053056219, 4117770203, 270520975, 2288941602, 3842906959, 2672265155, 1386118400, 1227037726⟩ := by
  rw [steps, abc_r54, abc_s54]
  kernel_rfl
theorem abc_r56 : steps kf (sched abcM) 56 init = ⟨952932627, 1053056219, 4117770203, 270520975, 1422599787, 3842906959, 2672265155, 1386118400⟩ := by
  rw [steps, abc_r55, abc_s55]
  kernel_rfl
theorem abc_r57 : steps kf (sched abcM) 57 init = ⟨4241590395, 952932627, 1053056219, 4117770203, 2606665836, 1422599787, 3842906959, 2672265155⟩ := by
  rw [steps, abc_r56, abc_s56]
  kernel_rfl
theorem abc_r58 : steps kf (sched abcM) 58 init = ⟨3227702383, 4241590395, 952932627, 1053056219, 2118385806, 2606665836, 1422599787, 3842906959⟩ := by
  rw [steps, abc_r57, abc_s57]
  kernel_rfl
theorem abc_r59 : steps kf (sched abcM) 59 init = ⟨4290184306, 3227702383, 4241590395, 952932627, 1837350854, 2118385806, 2606665836, 1422599787⟩ := by
  rw [steps, abc_r58, abc_s58]
  kernel_rfl
theorem abc_r60 : steps kf (sched abcM) 60 init = ⟨3064893439, 4290184306, 3227702383, 4241590395, 2988158269, 1837350854, 2118385806, 2606665836⟩ := by
  rw [steps, abc_r59, abc_s59]
  kernel_rfl
theorem abc_r61 : steps kf (sched abcM) 61 init = ⟨3093179625, 3064893439, 4290184306, 3227702383, 2518632596, 2988158269, 1837350854, 2118385806⟩ := by
  rw [steps, abc_r60, abc_s60]
  kernel_rfl
theorem abc_r62 : steps kf (sched abcM) 62 init = ⟨80891244, 3093179625, 3064893439, 4290184306, 2492278198, 2518632596, 2988158269, 1837350854⟩ := by
  rw [steps, abc_r61, abc_s61]
  kernel_rfl
theorem abc_r63 : steps kf (sched abcM) 63 init = ⟨3550093669, 80891244, 3093179625, 3064893439, 4212265488, 2492278198, 2518632596, 2988158269⟩ := by
  rw [steps, abc_r62, abc_s62]
  kernel_rfl
theorem abc_r64 : steps kf (sched abcM) 64 init = ⟨1349398616, 3550093669, 80891244, 3093179625, 1593118500, 4212265488, 2492278198, 2518632596⟩ := by
  rw [steps, abc_r63, abc_s63]
  kernel_rfl
theorem abc_sha : sha [97, 98, 99] = [186, 120, 22, 191, 143, 1, 207, 234, 65, 65, 64, 222, 93, 174, 34, 35, 176, 3, 97, 163, 150, 23, 122, 156, 180, 16, 255, 97, 242, 0, 21, 173] := by
  have e : [97, 98, 99] ++ pad ([97, 98, 99] : List Int).length = abcL := by kernel_rfl
  have h : run abcL = mixin init (steps kf (sched abcM) 64 init) := rfl
  have d : dig (mixin init ⟨1349398616, 3550093669, 80891244, 3093179625, 1593118500, 4212265488, 2492278198, 2518632596⟩) = [186, 120, 22, 191, 143, 1, 207, 234, 65, 65, 64, 222, 93, 174, 34, 35, 176, 3, 97, 163, 150, 23, 122, 156, 180, 16, 255, 97, 242, 0, 21, 173] := by kernel_rfl
  rw [sha, e, h, abc_r64]
  exact d
end Go.Proofs.Ytgmcdkkjemjneaa.Sm
