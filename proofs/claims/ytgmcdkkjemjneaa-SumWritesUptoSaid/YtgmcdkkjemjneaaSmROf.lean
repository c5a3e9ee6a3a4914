/- The document's Of. -/
import Derived.Test.YtgmcdkkjemjneaaSmROfW
namespace Go.Proofs.Ytgmcdkkjemjneaa.Sm
open Go.RowKit
set_option linter.unusedVariables false

set_option maxRecDepth 100000 in
set_option maxHeartbeats 4000000 in
theorem rof_any (A : Option Addr) (n C : Nat) (l : List Int) (w : World) (hrd : RdB w A n C l) (hn : n ≤ 1000000000) :
    Calls Try.prog 10 #[.slice A n C] w fun e w' => e = .returned (.agg (bv (sha l)).toArray) ∧ Below w.heap.size w w' := by
  have HRd := Lib.hid hrd
  have hnC := hrd.cap
  clear hrd
  have hz1 := zero32
  have hz2 := zero48
  have hz3 := zero49
  generalize hZ1 : (bv (List.replicate 32 0)).toArray = Z1 at *
  generalize hZ2 : (uv (List.replicate 64 0)).toArray = Z2 at *
  generalize hZ3 : (uv (List.replicate 8 0)).toArray = Z3 at *
  have HZ1 := Lib.hid hZ1
  have HZ1k := HZ1
  have HZ2 := Lib.hid hZ2
  have HZ2k := HZ2
  have HZ3 := Lib.hid hZ3
  clear hZ1 hZ2 hZ3
  have HK1 := Lib.hid (show (uv kc).toArray.all (·.oneCell') = true from all_oneCell_toArray (uv_one kc))
  have HKS : Hid ((Try.prog.info? 48).map (·.size) = some (uv kc).toArray.size) := Lib.hid (by rw [List.size_toArray, uv_len]; kernel_rfl)
  have HI1 := Lib.hid (show (uv ic).toArray.all (·.oneCell') = true from all_oneCell_toArray (uv_one ic))
  have HIS : Hid ((Try.prog.info? 49).map (·.size) = some (uv ic).toArray.size) := Lib.hid (by rw [List.size_toArray, uv_len]; kernel_rfl)
  have hzs2 : Hid ((uv kc).toArray.size ≤ Z2.size) := Lib.hid (by rw [← HZ2.out, List.size_toArray, List.size_toArray, uv_len, uv_len]; decide)
  have hzs3 : Hid ((uv ic).toArray.size ≤ Z3.size) := Lib.hid (by rw [← HZ3.out, List.size_toArray, List.size_toArray, uv_len, uv_len]; decide)
  go_enter Try.func10, Try.ntmps10
  go_upto_region 1 with (fail)
  have HB1 := Lib.hid ((Below.refl w.heap.size w).alloc (Nat.le_refl _) (.cells Z1 27))
  have HO1 : Hid ((w.alloc (.cells Z1 27)).rowIs w.heap.size 27 32 (fun _ => .int .u8 0)) := Lib.hid (by rw [← HZ1.out]; exact row_zeros w 32 _)
  have hs1 := al_lt w (.cells Z1 27)
  clear HZ1
  generalize w.alloc (.cells Z1 27) = w1 at *
  generalize hO : w.heap.size = O at *
  have HO := Lib.hid hO
  clear hO
  go_upto_region 2 with (first
    | (refine wpList_build rfl 48 _ rfl (by kernel_rfl) ?_
       generalize hG : Option.getD (Program.built _ _ _) _ = KA
       have HKe : Hid (KA = (uv kc).toArray) := Lib.hid (hG.symm.trans (show _ = (uv kc).toArray from by kernel_rfl))
       clear hG
       have HKS2 : Hid ((Try.prog.info? 48).map (·.size) = some KA.size) := Lib.hid (by rw [HKe.out]; exact HKS.out)
       have HK2 : Hid (KA.all (·.oneCell') = true) := Lib.hid (by rw [HKe.out]; exact HK1.out)
       have hzk : Hid (KA.size ≤ Z2.size) := Lib.hid (by rw [HKe.out]; exact hzs2.out))
    | (refine wpList_store_mid rfl _ _ _ rfl w1.heap.size 0 KA rfl rfl (there_new w1 Z2 _ _ hzk.out) HKS2.out HK2.out ?_))
  have HK2r : Hid (((w1.alloc (.cells Z2 48)).setCells w1.heap.size 0 KA.toList).rowIs w1.heap.size 48 64 (fun i => (uv kc).getD i undef)) := Lib.hid (by
    rw [← HZ2.out, HKe.out]
    exact row_filled w1 (uv (List.replicate 64 0)) (uv kc) _ 64 (by rw [uv_len]; rfl) (by rw [uv_len]; rfl))
  have HB2 : Hid (Below O w ((w1.alloc (.cells Z2 48)).setCells w1.heap.size 0 KA.toList)) := Lib.hid (below_setCells _ (by omega) _ 0 _ (HB1.out.alloc (by omega) _))
  have HO2 : Hid (((w1.alloc (.cells Z2 48)).setCells w1.heap.size 0 KA.toList).rowIs O 27 32 (fun _ => .int .u8 0)) := Lib.hid (row_apart (by omega) _ 0 _ (World.rowIs.alloc HO1.out _))
  have hs2 : w1.heap.size < ((w1.alloc (.cells Z2 48)).setCells w1.heap.size 0 KA.toList).heap.size := HK2r.out.lt
  clear HKe HKS2 HK2 hzk HO1 HB1 hzs2 HK1 HKS
  generalize (w1.alloc (.cells Z2 48)).setCells w1.heap.size 0 KA.toList = w2 at *
  generalize hKB : w1.heap.size = KB at *
  clear hKB
  go_upto_region 3 with (first
    | (refine wpList_build rfl 49 _ rfl (by kernel_rfl) ?_
       generalize hG : Option.getD (Program.built _ _ _) _ = IA
       have HIe : Hid (IA = (uv ic).toArray) := Lib.hid (hG.symm.trans (show _ = (uv ic).toArray from by kernel_rfl))
       clear hG
       have HIS2 : Hid ((Try.prog.info? 49).map (·.size) = some IA.size) := Lib.hid (by rw [HIe.out]; exact HIS.out)
       have HI2 : Hid (IA.all (·.oneCell') = true) := Lib.hid (by rw [HIe.out]; exact HI1.out)
       have hzi : Hid (IA.size ≤ Z3.size) := Lib.hid (by rw [HIe.out]; exact hzs3.out))
    | (refine wpList_store_mid rfl _ _ _ rfl w2.heap.size 0 IA rfl rfl (there_new w2 Z3 _ _ hzi.out) HIS2.out HI2.out ?_))
  have HI3 : Hid (((w2.alloc (.cells Z3 49)).setCells w2.heap.size 0 IA.toList).rowIs w2.heap.size 49 8 (fun i => (uv ic).getD i undef)) := Lib.hid (by
    rw [← HZ3.out, HIe.out]
    exact row_filled w2 (uv (List.replicate 8 0)) (uv ic) _ 8 (by rw [uv_len]; rfl) (by rw [uv_len]; rfl))
  have HB3 : Hid (Below O w ((w2.alloc (.cells Z3 49)).setCells w2.heap.size 0 IA.toList)) := Lib.hid (below_setCells _ (by omega) _ 0 _ (HB2.out.alloc (by omega) _))
  have HO3 : Hid (((w2.alloc (.cells Z3 49)).setCells w2.heap.size 0 IA.toList).rowIs O 27 32 (fun _ => .int .u8 0)) := Lib.hid (row_apart (by omega) _ 0 _ (World.rowIs.alloc HO2.out _))
  have HK3 : Hid (((w2.alloc (.cells Z3 49)).setCells w2.heap.size 0 IA.toList).rowIs KB 48 64 (fun i => (uv kc).getD i undef)) := Lib.hid (row_apart (by omega) _ 0 _ (World.rowIs.alloc HK2r.out _))
  have hs3 : w2.heap.size < ((w2.alloc (.cells Z3 49)).setCells w2.heap.size 0 IA.toList).heap.size := HI3.out.lt
  clear HIe HIS2 HI2 hzi HO2 HB2 HZ3 hz3 hzs3 HI1 HIS HK2r
  generalize (w2.alloc (.cells Z3 49)).setCells w2.heap.size 0 IA.toList = w3 at *
  generalize hHB : w2.heap.size = HB at *
  clear hHB
  have HE3 := Lib.hid (own_empty_u w3 w3.heap.size (Nat.le_refl _))
  have hOw := HO.out
  have HR3 : Hid (RdB (w3.alloc (.cells #[] 5)) A n C l) := Lib.hid (HRd.out.below (by
    have h := HB3.out.alloc (show O ≤ w3.heap.size by omega) (.cells #[] 5)
    rw [← hOw] at h
    exact h))
  have hb3 := al_le w3 (.cells #[] 5)
  clear hOw
  go_wp2_with (at_builtin; refine wpList_append_rd _ rfl (.tmp 24) (.tmp 25) rfl w3.heap.size _ 0 [] rfl HE3.out A n C l rfl HR3.out (by omega) hb3 ?_)
  intro M1 C1 w4 ho4 hb4
  obtain ⟨i0, hi, hz0, hz1', hz2'⟩ := info_parts info5
  have HO4 := Lib.hid (show w4.ownsRow w3.heap.size 5 1 (.slice M1 n C1) n (bv l) by simpa using ho4)
  have hb34 : Below w3.heap.size w3 w4 := ((Below.refl w3.heap.size w3).alloc (Nat.le_refl _) (.cells #[] 5)).trans hb4
  have HB4 := Lib.hid (HB3.out.trans (hb34.mono (by omega)))
  have hsz4 := hb34.size
  have HO5 := Lib.hid (World.rowIs.of_block HO3.out (hb34.block O (by omega)))
  have HK5 := Lib.hid (World.rowIs.of_block HK3.out (hb34.block KB (by omega)))
  have HI5 := Lib.hid (World.rowIs.of_block HI3.out (hb34.block HB (by omega)))
  clear ho4 hb4 hb34 HR3 HE3 HO3 HK3 HI3 HB3
  generalize hM : w3.heap.size = MB at *
  clear hM hb3
  go_wp2_with (at_builtin; refine wpList_append_own _ rfl (.tmp 26) (.tmp 27) 24 rfl MB 5 i0 (.int .u8 0) 1 1 Try.underlying24 hi hz0 hz1' hz2' rfl (by decide) (.slice M1 n C1) n (bv l) rfl (HO4.out.alloc _) ⟨w4.heap.size, 0, none⟩ 1 1 (bv [128]) rfl rfl ?c1 (bv_one _) ?c3 ?c4 ?c5 ?_)
  case c1 => first | exact new_cells [128] w4 _ | (intro j u hj; simpa [bv] using hj)
  case c3 => unfold maxLen; omega
  case c4 => omega
  case c5 => exact Nat.le_trans hsz4 (al_le w4 _)
  intro v5 w5 ho5 hg5 hnil5
  obtain ⟨M5, C5, rfl⟩ := own_slice' ho5
  have hb45 : Below MB w4 w5 := ((Below.refl MB w4).alloc hsz4 (.cells (bv [128]).toArray 5)).trans (below_grown (Nat.le_trans hsz4 (al_le w4 _)) (HO4.out.alloc _) hg5)
  have HOb := Lib.hid (own_eq ho5 (ys := bv (l ++ 128 :: List.replicate 0 0)) (m := n + 1 + 0) (by simp [bv]) rfl)
  have HRf4 : Hid (Rf w w4 O KB HB MB (sF init)) := Lib.hid ⟨HO5.out, HK5.out.congr (fun i hi => by
      have hk : kc.length = 64 := rfl
      simp [uv, kf, List.getD, hk, hi]), HI5.out.congr (fun i hi => by
      have hk : ic.length = 8 := rfl
      show _ = Value.int .u32 (init.at i)
      rw [← init_at i hi]
      simp [uv, List.getD, hk, hi]), HB4.out, by omega, by omega, by omega, by omega, by omega, hsz4⟩
  have HRf := Lib.hid (HRf4.out.below hb45)
  obtain ⟨z, hz⟩ : ∃ z, z = padN n - 9 := ⟨_, rfl⟩
  have HZs := Lib.hid (show ∀ k, k < z → (n + 1 + k) % 64 ≠ 56 from fun k hk => pad_stop n k (by omega))
  have HZe := Lib.hid (show (n + 1 + z) % 64 = 56 by rw [hz]; exact pad_end n)
  have hz128 : z ≤ 119 := by have := padN_ge n; omega
  have HZ := Lib.hid hz
  clear hz ho5 hg5 hnil5 hb45 HRf4 HO4 HB4 HO5 HK5 HI5
  go_wp2_with fail
  go_loopw [5] (fun s5 wr => ∃ (M : Option Addr) (k c : Nat), s5 = .slice M (n + 1 + k) c ∧ k ≤ z ∧ Hid (wr.ownsRow MB 5 1 (.slice M (n + 1 + k) c) (n + 1 + k) (bv (l ++ 128 :: List.replicate k 0))) ∧ Hid (Rf w wr O KB HB MB (sF init))) (fun s5 _ => match s5 with | .slice _ m _ => n + 1 + z - m | _ => 0)
  case atStart => exact ⟨M5, 0, C5, rfl, Nat.zero_le _, HOb, HRf⟩
  case round =>
    clear HOb HRf
    obtain ⟨M, k, c, rfl, hk, HOb, HRf⟩ := hrel
    by_cases hkz : k < z
    · have hne : (n + 1 + k) % 64 ≠ 56 := HZs.out k hkz
      have hd : (((n + 1 + k : Nat) : Int) % 64 != 56) = true := by simp; omega
      clear hne
      go_wp2_with (at_builtin; refine wpList_append_own _ rfl (.tmp 33) (.tmp 34) 24 rfl MB 5 i0 (.int .u8 0) 1 1 Try.underlying24 hi hz0 hz1' hz2' rfl (by decide) _ (n + 1 + k) _ rfl (HOb.out.alloc _) ⟨wr.heap.size, 0, none⟩ 1 1 (bv [0]) rfl rfl ?c1 (bv_one _) ?c3 ?c4 ?c5 ?_)
      case c1 => first | exact new_cells [0] wr _ | (intro j u hj; simpa [bv] using hj)
      case c3 => unfold maxLen; omega
      case c4 => omega
      case c5 => exact Nat.le_trans HRf.out.sz (al_le wr _)
      intro v6 w6 ho6 hg6 hn6
      obtain ⟨M6, C6, rfl⟩ := own_slice' ho6
      have hb6 : Below MB wr w6 := ((Below.refl MB wr).alloc HRf.out.sz (.cells (bv [0]).toArray 5)).trans (below_grown (Nat.le_trans HRf.out.sz (al_le wr _)) (HOb.out.alloc _) hg6)
      have HOc := Lib.hid (own_eq ho6 (ys := bv (l ++ 128 :: List.replicate (k + 1) 0)) (m := n + 1 + (k + 1)) (by simp [bv, List.replicate_succ']) rfl)
      have HRg := Lib.hid (HRf.out.below hb6)
      clear ho6 hg6 hn6 hb6 HOb HRf
      go_wp2_with fail
      go_roundw
      case rel => exact ⟨M6, k + 1, C6, rfl, by omega, HOc, HRg⟩
      case measure => show n + 1 + z - (n + 1 + k + 1) < n + 1 + z - (n + 1 + k); omega
    · have hd : (((n + 1 + k : Nat) : Int) % 64 != 56) = false := by
        have := HZe.out
        have : k = z := by omega
        simp; omega
      have HOz : Hid (wr.ownsRow MB 5 1 (.slice M (n + 1 + k) c) (n + 1 + k) (bv (l ++ 128 :: List.replicate z 0))) := Lib.hid (by
        have : k = z := by omega
        rw [← this]; exact HOb.out)
      clear HOb
      have HNum := Lib.hid (rnum_any MB (.slice M (n + 1 + k) c) (n + 1 + k) _ (8 * (n : Int)) wr HRf.out.sz HOz.out (by omega) (by omega) (by omega))
      go_wp2_with fail
      refine HNum.out.mono ?_
      rintro e w7 ⟨v7, rfl, ho7, hb7⟩
      obtain ⟨P, hP⟩ : ∃ P, P = l ++ pad n := ⟨_, rfl⟩
      obtain ⟨L, hL⟩ : ∃ L, L = n + padN n := ⟨_, rfl⟩
      have hpn := padN_ge n
      have ho7' := own_eq ho7 (ys := bv P) (m := L) (by
        rw [hP, ← (pad_of l n).resolve_right (fun h => h hn)]
        simp [bv]
        exact HZ.out) (by have := HZ.out; omega)
      have hPr : ∀ i, i < L → 0 ≤ P.getD i 0 ∧ P.getD i 0 ≤ 255 := by
        rw [hP, hL]
        exact bytes_range l n HRd.out.len hn HRd.out.byte
      have hPl : P.length = L := by rw [hP, hL, List.length_append, pad_length, HRd.out.len]
      obtain ⟨g, C7, cur, rfl, hMg, hcur, hLC, hC7, hsz7, htk⟩ : ∃ g cap cur, v7 = .slice (some ⟨g, 0, none⟩) L cap ∧ MB ≤ g ∧ w7.heap[g]? = some (.cells cur 5 (0, 0)) ∧ L ≤ cap ∧ cap ≤ maxLen ∧ cur.size = cap * 1 ∧ cur.toList.take (L * 1) = bv P := by
        rcases ho7'.2 with ⟨-, h⟩ | h
        · omega
        · exact h
      have hgl7 : g < w7.heap.size := by
        rcases Nat.lt_or_ge g w7.heap.size with h | h
        · exact h
        · rw [Array.getElem?_eq_none h] at hcur; simp at hcur
      have hby7 : ∀ i, i < L → w7.cell? ⟨g, i, none⟩ = some (.int .u8 (P.getD i 0)) := fun i hi => by
        rw [World.ownsRow.cellAt ho7' i (by omega)]
        simp [bv, hPl, hi]
      have hL64 : L % 64 = 0 := by rw [hL]; exact hpn.2.2
      have hLb : L ≤ 1000000200 := by omega
      have hLC' : L ≤ C7 := hLC
      have HBk7 : Hid (∀ Z : Array Value, Z.size = 64 → Bk w (w7.alloc (.cells Z 48)) O KB HB MB w7.heap.size g L P (sF init) (fun i => Z.getD i undef)) := Lib.hid (fun Z hz => by
        have h := row_new w7 Z 48
        rw [hz] at h
        have hs7 := hb7.size
        have hs8 := HRf.out.sz
        exact ⟨(HRf.out.below hb7).below ((Below.refl MB w7).alloc (by omega) _), h, fun i hi => by
          rw [Below.cell (((Below.refl w7.heap.size w7).alloc (Nat.le_refl _) _)) (p := ⟨g, i, none⟩) hgl7]; exact hby7 i hi, by omega, hMg, by omega, Nat.lt_trans hgl7 (al_lt w7 _)⟩)
      have HPr := Lib.hid hPr
      have HP := Lib.hid hP
      have HL := Lib.hid hL
      have HPl := Lib.hid hPl
      clear hPr hP hL hPl ho7 ho7' hb7 hcur hsz7 htk hby7 HOz HNum HRf hd hpn hC7 hLC HZ HZe HZs hkz hk hi hz0 hz1' hz2' hz128
      go_upto_region 8 with (fail)
      have HBk := Lib.hid (HBk7.out Z2 (by rw [← HZ2k.out, List.size_toArray, uv_len]; rfl))
      generalize hw8 : w7.alloc (.cells Z2 48) = w8 at *
      clear hw8 HBk7
      generalize w7.heap.size = WB at *
      go_upto_block 2 with (fail)
      refine blocksAll _ hL64 hLb hLC' HPl.out HPr.out HBk.out _ ?_
      intro v7 v8 v9 v10 v11 v12 v13 v14 v15 v16 v17 v18 v19 v42 v43 v44 v45 v46 v47 v48 v49 v50 v51 v52 v53 v54 v55 v56 v57 v58 v59 v60 v61 v62 v63 v64 v65 v66 v67 v68 v69 v70 v71 v72 v73 v74 v75 v76 v77 v78 v79 v80 v81 v82 v83 v84 v85 v86 v87 v88 v89 v90 v91 v92 v93 v94 v95 v96 v97 v98 v99 v100 v101 v102 v103 v104 v105 v106 v107 v108 v109 v110 v111 v112 v113 v114 v115 v116 v117 v118 v119 v120 v121 v122 v123 v124 v125 v126 v127 v128 v129 v130 v131 v132 v133 v134 v135 v136 v137 v138 v139 v140 v141 v142 v143 v144 v145 v146 v147 v148 v149 v150 v151 v152 v153 v154 v155 v156 v157 v158 v159 v160 v161 v162 v163 v164 v165 v166 v167 v168 v169 v170 v171 v172 v173 v174 v175 v176 v177 v178 v179 v180 v181 v182 v183 v184 v185 v186 v187 v188 v189 v190 v191 v192 v193 v194 v195 v196 v197 v198 v199 v200 v201 v202 v203 v204 v205 v206 v207 v208 v209 v210 v211 v212 v213 v214 v215 v216 v217 v218 v219 v220 v221 v222 v223 v224 v225 v226 v227 v228 v229 v230 v231 v232 v233 v234 v235 v236 v237 v238 v239 v240 v241 v242 v243 v244 v245 v246 v247 v248 v249 v250 v251 v252 v253 v254 v255 v256 v257 v258 v259 fW1 w9 hb9
      have HBk9 := Lib.hid hb9
      have hs9 := hb9.rf.sz
      have HB9 := Lib.hid (hb9.rf.bel)
      have HLk : Hid (Lk w (w9.alloc (.cells Z1 27)) O HB w9.heap.size (run P) (fun _ => .int .u8 0)) := Lib.hid (by
        have hHl := hb9.rf.rowH.lt
        have hOl := hb9.rf.rowO.lt
        refine ⟨World.rowIs.alloc hb9.rf.rowO _, World.rowIs.alloc hb9.rf.rowH _, ?_, hb9.rf.bel.alloc (by omega) _, by omega, by omega⟩
        rw [← HZ1k.out]
        exact row_zeros w9 32 _)
      clear hb9 HBk HBk9 hs9
      go_upto_region 36 with (fail)
      change Code.wp _ _ _ _ (w9.alloc (.cells Z1 27)) 
      generalize w9.alloc (.cells Z1 27) = w10 at *
      generalize w9.heap.size = UB at *
      go_upto_block 12 with (fail)
      refine out32 _ (run_ok P) HLk.out _ ?_
      intro v21 v260 v261 v262 v263 v264 v265 v266 v267 v268 v269 v270 v271 v272 v273 v274 v275 G w11 h11
      obtain ⟨hgd, hlk⟩ := h11
      have hdl := dig_length (run P)
      have HRg : Hid (w11.rangeAt UB 0 (bv (dig (run P)))) := Lib.hid (fun j v hj => by
        have hl := (List.getElem?_eq_some_iff.1 hj).1
        rw [bv, List.length_map, hdl] at hl
        rw [Nat.zero_add, hlk.rowU.cell hl, hgd j hl, ← hj]
        simp [bv, hdl, hl])
      have hbl : (bv (dig (run P))).length = 32 := by rw [bv, List.length_map, hdl]
      have HSz : Hid ((Try.prog.info? 27).map (·.size) = some (bv (dig (run P))).length) := Lib.hid (by rw [hbl]; kernel_rfl)
      have HSz2 : Hid ((Try.prog.info? 27).map (·.size) = some (bv (dig (run P))).toArray.size) := Lib.hid (by rw [List.size_toArray]; exact HSz.out)
      have HOne := Lib.hid (all_oneCell_toArray (bv_one (dig (run P))))
      have HTh : Hid (w11.there O 0 (bv (dig (run P))).toArray.size) := Lib.hid (fun j hj => by
        rw [List.size_toArray, hbl] at hj
        rw [Nat.zero_add]
        exact ⟨by rw [hlk.rowO.cell hj]; rfl, hlk.rowO.frozen _⟩)
      have HSt := Lib.hid (row_stored hlk.rowO (bv (dig (run P))) hbl)
      have HBf := Lib.hid (below_setCells O (Nat.le_refl _) (bv (dig (run P))) 0 w11 hlk.bel)
      have HDg : Hid (bv (dig (run P)) = bv (sha l)) := Lib.hid (by rw [HP.out, sha, HRd.out.len])
      clear hgd hlk hdl hbl HLk HB9
      generalize bv (dig (run P)) = DL at *
      go_wp2_with (first
        | (refine wpList_load_mid rfl _ _ rfl UB 0 rfl DL _ HRg.out Try.underlying27 rfl HSz.out ?_)
        | (refine wpList_store_mid rfl _ _ _ rfl O 0 DL.toArray rfl rfl HTh.out HSz2.out HOne.out ?_))
      refine bodyPost_ret (results_cell_row rfl _ _ O _ _ _ _ rfl HSt.out Try.underlying27 rfl HSz2.out) rfl ?_
      refine ⟨by rw [HDg.out], ?_⟩
      rw [HO.out]
      exact HBf.out
end Go.Proofs.Ytgmcdkkjemjneaa.Sm
