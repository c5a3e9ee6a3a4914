/- Texts of one's own, merged: CdRPo, SmKit, SmBit, SmWord, SmMath, SmRound, SmConst, SmMix, SmMixC. -/
import Derived.Test.YtmcmapgllaopmaaMk
import Derived.Test.YtmcmapgllaopmaaChecked
import Derived.WalkKit
import Derived.WalkSpells
import Derived.WalkLawsBesides
import Derived.Outline
import Derived.LoopTactic
import Derived.Lib.Hide
import Derived.Deep.Light
import Derived.Deep.QuietTactic
import Derived.BigQuiet
import Derived.OwnWalk
import Derived.Below
import Derived.Deep.LoopGhost
import Derived.RegionTactic
import Derived.BigRegion
import Derived.Deep.RegionLaw
import Derived.Deep.RegionWith
import Derived.Deep.RegionHeld3
import Derived.Deep.OwnRows
import Derived.Deep.MidRow

section
/- The document's ParseObj of any bytes. -/
namespace Go.Proofs.Ytmcmapgllaopmaa.Cd
open Go.RowKit
set_option linter.unusedVariables false

set_option maxRecDepth 100000 in
set_option maxHeartbeats 4000000 in
theorem rparseObj_any (A : Option Addr) (L C : Nat) (l : List Int) (w : World) (h : RdB w A L C l) (hL : L ≤ 140737488000000) :
    Calls Try.prog 27 #[.slice A L C] w (PoRet l L w) := by
  have HRd := Lib.hid h
  have HB0 := Lib.hid (Below.refl w.heap.size w)
  have hlen := h.len
  have hcap := h.cap
  have hmax := h.max
  clear h
  go_enter Try.func27, Try.ntmps27
  go_upto_region 1 with (fail)
  have HO1 : Hid ((w.alloc (.cells #[.int .i64 0, .slice none 0 0] 50)).rowIs w.heap.size 50 2 (fun i => (#[.int .i64 0, .slice none 0 0] : Array Value).getD i undef)) := Lib.hid (row_new w #[.int .i64 0, .slice none 0 0] 50)
  have HB1 := Lib.hid (HB0.out.alloc (Nat.le_refl _) (.cells #[.int .i64 0, .slice none 0 0] 50))
  have HRd1 := Lib.hid (HRd.out.below HB1.out)
  have hOl : w.heap.size ≤ w.heap.size := Nat.le_refl _
  clear HB0 HRd
  generalize w.alloc (.cells #[.int .i64 0, .slice none 0 0] 50) = w1 at *
  obtain ⟨O, hO⟩ : ∃ O, O = w.heap.size := ⟨_, rfl⟩
  rw [← hO]
  have HO2 : Hid (w1.rowIs O 50 2 (fun i => (#[.int .i64 0, .slice none 0 0] : Array Value).getD i undef)) := Lib.hid (by rw [hO]; exact HO1.out)
  have hOw : w.heap.size ≤ O := by omega
  have HOw := Lib.hid hO
  clear hO HO1 hOl
  have HFz := Lib.hid (Fin.mk2 (a := .int .i64 0) (b := .slice none 0 0) rfl rfl HO2.out HB1.out hOw)
  by_cases h5 : L < 5
  · have hd : decide ((L : Int) < 5) = true := by simp; omega
    have HE : Hid (poE l L = 14) := Lib.hid (by unfold poE; rw [if_pos h5])
    clear hlen
    go_wp2_with (refine wpList_store_mid rfl _ _ _ rfl O 0 [.int .i64 0, .slice none 0 0].toArray rfl rfl HFz.out.there HFz.out.size HFz.out.one ?_)
    refine bodyPost_ret (results_cell2 rfl _ _ O _ _ _ _ rfl HFz.out.stored Try.underlying50 rfl HFz.out.size (.int .i64 14) rfl) rfl ?_
    exact ⟨HFz.out.bel, .inl ⟨by rw [HE.out]; decide, by rw [HE.out]; rfl⟩⟩
  · have hd : decide ((L : Int) < 5) = false := by simp; omega
    obtain ⟨g, o, rfl, hgl, hcc⟩ := HRd1.out.at (by omega)
    obtain ⟨T, hT⟩ : ∃ T, T = l.getD 0 0 := ⟨_, rfl⟩
    have hc0 : w1.cell? ⟨g, o, none⟩ = some (.int .u8 T) := by rw [hT]; exact hcc 0 (by omega)
    have hL0 : (0 : Int) < (L : Int) := by omega
    have hz0 : 0 < L := by omega
    obtain ⟨N, hN⟩ : ∃ N, N = nv ((l.drop 1).take 4) := ⟨_, rfl⟩
    have HGt := Lib.hid (get_any (some ⟨g, o, none⟩) L C l 1 4 w1 HRd1.out (by omega))
    have htn : tv ((l.drop 1).take 4) = N := by rw [hN]; exact tv_nv 4 _ (Nat.le_refl _) (by rw [List.length_take]; omega) (fun i hi => by
      rw [List.length_take, List.length_drop] at hi
      rw [take_getD _ _ _ (by omega)]
      have hr := HRd1.out.byte (1 + i) (by omega)
      simpa [List.getD, Nat.add_comm] using hr)
    rw [htn] at HGt
    have hNb : 0 ≤ N ∧ N < 4294967296 := by
      rw [hN]
      have hb := nv_bound 4 ((l.drop 1).take 4) (by rw [List.length_take]; omega) (fun i hi => by
        rw [List.length_take, List.length_drop] at hi
        rw [take_getD _ _ _ (by omega)]
        have hr := HRd1.out.byte (1 + i) (by omega)
        simpa [List.getD, Nat.add_comm] using hr)
      exact ⟨hb.1, by have := hb.2; omega⟩
    have hN1 := hNb.1
    have hN2 := hNb.2
    have hdl : (l.drop 5).length = L - 5 := by rw [List.length_drop]; omega
    obtain ⟨M, hM⟩ : ∃ M, M = L - 5 := ⟨_, rfl⟩
    obtain ⟨bd, hBD⟩ : ∃ bd, bd = l.drop 5 := ⟨_, rfl⟩
    have HPE : Hid (poE l L = if poK T = 0 then 3 else if (M : Int) < N then 14 else if N < (M : Int) then 15 else ckE (poK T) bd M) := Lib.hid (by
      unfold poE; rw [if_neg h5, ← hT, ← hN, ← hM, ← hBD])
    have HPoO : Hid (∀ e w', (Below w.heap.size w w' ∧ ((poE l L ≠ 0 ∧ e = .returned (.tuple #[.agg ob0.toArray, .int .i64 (poE l L)])) ∨ (poE l L = 0 ∧ ∃ A' C', e = .returned (.tuple #[.agg #[.int .i64 (poK T), .slice A' M C'], .int .i64 0]) ∧ w'.ownsRow w.heap.size 5 1 (.slice A' M C') M (bv bd)))) → PoRet l L w e w') := Lib.hid (fun e w' h => by
      unfold PoRet; rw [← hT, ← hM, ← hBD]; exact h)
    obtain ⟨A2, hA2⟩ : ∃ A2, A2 = (if C = 5 then some ⟨g, o, none⟩ else (some ⟨g, o, none⟩ : Option Addr).map (fun x => x.add 5)) := ⟨_, rfl⟩
    have hrc := rd_cut HRd1.out 5 (L - 5) (Nat.le_refl _) (by omega) A2 hA2
    rw [show (l.drop 5).take (L - 5) = bd by rw [hBD, List.take_of_length_le (by rw [List.length_drop]; omega)], ← hM] at hrc
    have HRc := Lib.hid hrc
    have hcut2 := hA2.symm
    have hcut3 : (if C = 5 then some (⟨g, o, none⟩ : Addr) else some ⟨g, o + 5, none⟩) = A2 := by rw [hA2]; simp [Addr.add]
    have HBy : Hid (∀ i, i < M → 0 ≤ bd.getD i 0 ∧ bd.getD i 0 ≤ 255) := Lib.hid hrc.byte
    have hML : (L : Int) - 5 = (M : Int) := by omega
    have hM2 : L - 5 = M := hM.symm
    have hMb : M ≤ 140737488000000 := by omega
    have z5 : (5 : Int) ≤ (L : Int) := by omega
    have z6 : (5 : Int) ≤ (C : Int) := by omega
    clear hrc hA2 htn hNb hdl hBD hM hT hN hcc hlen
    have hcs : T = 98 ∨ T = 116 ∨ T = 99 ∨ (T ≠ 98 ∧ T ≠ 116 ∧ T ≠ 99) := by omega
    rcases hcs with h98 | h116 | h99 | ⟨h98, h116, h99⟩
    · obtain rfl : T = 98 := h98
      have HPE2 : Hid (poE l L = if (M : Int) < N then 14 else if N < (M : Int) then 15 else ckE 1 bd M) := Lib.hid (by rw [HPE.out]; rw [show poK 98 = 1 from rfl, if_neg (by decide)])
      rw [show poK 98 = 1 from rfl] at HPoO
      clear HPE
      by_cases hlt : (M : Int) < N
      · have HE : Hid (poE l L = 14) := Lib.hid (by rw [HPE2.out, if_pos hlt])
        have hdl : decide ((M : Int) < N) = true := by simp [hlt]
        clear hlt hcut2 hcut3
        go_wp2_with fail
        refine HGt.out.mono ?_
        rintro e w' ⟨rfl, rfl⟩
        go_wp2_with (refine wpList_store_mid rfl _ _ _ rfl O 0 [.int .i64 0, .slice none 0 0].toArray rfl rfl HFz.out.there HFz.out.size HFz.out.one ?_)
        refine bodyPost_ret (results_cell2 rfl _ _ O _ _ _ _ rfl HFz.out.stored Try.underlying50 rfl HFz.out.size (.int .i64 14) rfl) rfl ?_
        exact HPoO.out _ _ ⟨HFz.out.bel, .inl ⟨by rw [HE.out]; decide, by rw [HE.out]; rfl⟩⟩
      · have hdl : decide ((M : Int) < N) = false := by simp; omega
        by_cases hgt : N < (M : Int)
        · have HE : Hid (poE l L = 15) := Lib.hid (by rw [HPE2.out, if_neg hlt, if_pos hgt])
          have hdg : decide (N < (M : Int)) = true := by simp [hgt]
          clear hlt hgt hcut2 hcut3
          go_wp2_with fail
          refine HGt.out.mono ?_
          rintro e w' ⟨rfl, rfl⟩
          go_wp2_with (refine wpList_store_mid rfl _ _ _ rfl O 0 [.int .i64 0, .slice none 0 0].toArray rfl rfl HFz.out.there HFz.out.size HFz.out.one ?_)
          refine bodyPost_ret (results_cell2 rfl _ _ O _ _ _ _ rfl HFz.out.stored Try.underlying50 rfl HFz.out.size (.int .i64 15) rfl) rfl ?_
          exact HPoO.out _ _ ⟨HFz.out.bel, .inl ⟨by rw [HE.out]; decide, by rw [HE.out]; rfl⟩⟩
        · have hdg : decide (N < (M : Int)) = false := by simp; omega
          have HE : Hid (poE l L = ckE 1 bd M) := Lib.hid (by rw [HPE2.out, if_neg hlt, if_neg hgt])
          have hba := (Below.refl w1.heap.size w1).alloc (Nat.le_refl _) (.cells #[] 5)
          have HRa := Lib.hid (HRc.out.below hba)
          have HBa := Lib.hid hba
          have hsa := al_le w1 (.cells #[] 5)
          have hO1 : O < w1.heap.size := HO2.out.lt
          clear hlt hgt hba HPE2 HFz
          go_wp2_with fail
          refine HGt.out.mono ?_
          rintro e wq ⟨rfl, hwq⟩
          rw [hwq]
          clear hwq wq
          go_wp2_with (refine wpList_append_rd _ rfl _ _ rfl w1.heap.size _ 0 [] rfl (own_lit0 w1) A2 M (C - 5) bd rfl HRa.out (by omega) hsa ?_)
          intro A' C' w5 ho hb
          have hb5 : Below w1.heap.size w1 w5 := HBa.out.trans hb
          have HOw5 := Lib.hid ho
          have HB5 := Lib.hid (HB1.out.trans (hb5.mono HB1.out.size))
          have HO5 := Lib.hid (World.rowIs.of_block HO2.out (hb5.block O HO2.out.lt))
          have hs1 : w.heap.size ≤ w1.heap.size := HB1.out.size
          have hs5 : w1.heap.size ≤ w5.heap.size := hb5.size
          have hbx := HB5.out.alloc (show w.heap.size ≤ w5.heap.size by omega) (.cells #[.int .i64 0, .slice none 0 0] 50)
          have hrx : (w5.alloc (.cells #[.int .i64 0, .slice none 0 0] 50)).rowIs w5.heap.size 50 2 (fun i => (#[.int .i64 0, .slice none 0 0] : Array Value).getD i undef) := row_new w5 #[.int .i64 0, .slice none 0 0] 50
          have HFx := Lib.hid (Fin.mk2 (a := .int .i64 1) (b := .slice A' M C') rfl rfl hrx hbx (show w.heap.size ≤ w5.heap.size by omega))
          have hb6 : Below w5.heap.size w5 ((w5.alloc (.cells #[.int .i64 0, .slice none 0 0] 50)).setCells w5.heap.size 0 [.int .i64 1, .slice A' M C']) := below_cells (Nat.le_refl _) _ _ _ ((Below.refl _ _).alloc (Nat.le_refl _) _)
          have HO6 := Lib.hid (World.rowIs.of_block HO5.out (hb6.block O HO5.out.lt))
          have HOw6 := Lib.hid (own_keep HOw5.out hb6)
          have HB6 := Lib.hid HFx.out.bel
          have HX6 := Lib.hid HFx.out.row2
          have hOX : O < w5.heap.size := HO5.out.lt
          clear ho hb hb5 hbx hrx hb6 HO5 HB5 HOw5
          go_upto_region 18 with (refine wpList_store_mid rfl _ _ _ rfl w5.heap.size 0 [.int .i64 1, .slice A' M C'].toArray rfl rfl HFx.out.there HFx.out.size HFx.out.one ?_)
          change Code.wp _ _ _ _ ((w5.alloc (.cells #[.int .i64 0, .slice none 0 0] 50)).setCells w5.heap.size 0 [.int .i64 1, .slice A' M C'])
          clear HFx HRa HBa hsa HB1 HO2 HRc HRd1
          generalize (w5.alloc (.cells #[.int .i64 0, .slice none 0 0] 50)).setCells w5.heap.size 0 [.int .i64 1, .slice A' M C'] = w6 at *
          generalize w5.heap.size = X at *
          have hcx0 : w6.cell? ⟨X, 0, none⟩ = some (.int .i64 1) := HX6.out.cell (i := 0) (by omega)
          have hcx1 : w6.cell? ⟨X, 1, none⟩ = some (.slice A' M C') := HX6.out.cell (i := 1) (by omega)
          have HRd6 := Lib.hid (RdB.of_own2 HOw6.out (by omega) HBy.out)
          have HCk := Lib.hid (rbody_any 1 A' M C' bd w6 HRd6.out)
          have hX6 := HX6.out.lt
          go_wp2_with fail
          refine HCk.out.mono ?_
          rintro e w7 ⟨rfl, hb⟩
          have HB7 := Lib.hid (HB6.out.trans (hb.mono (by have := HB6.out.size; omega)))
          have HO7 := Lib.hid (World.rowIs.of_block HO6.out (hb.block O HO6.out.lt))
          have HX7 := Lib.hid (World.rowIs.of_block HX6.out (hb.block X hX6))
          have HOw7 := Lib.hid (own_keep HOw6.out hb)
          clear hb HCk HB6 HO6 HX6 HRd6 hcx0 hcx1 HOw6
          have hc0 : w7.cell? ⟨X, 0, none⟩ = some (.int .i64 1) := HX7.out.cell (i := 0) (by omega)
          have hc1 : w7.cell? ⟨X, 1, none⟩ = some (.slice A' M C') := HX7.out.cell (i := 1) (by omega)
          by_cases he : ckE 1 bd M = 0
          · rw [he] at HE ⊢
            have HFz := Lib.hid (Fin.mk2 (a := .int .i64 1) (b := .slice A' M C') rfl rfl HO7.out HB7.out hOw)
            have HOw9 := Lib.hid (own_grown HOw7.out (grown_cells _ O [.int .i64 1, .slice A' M C'] 0) (fun e => by have := (HOw7.out.lt O e).1; omega))
            clear HB7 HO7 HX7 he
            go_wp2_with (refine wpList_store_mid rfl _ _ _ rfl O 0 [.int .i64 1, .slice A' M C'].toArray rfl rfl HFz.out.there HFz.out.size HFz.out.one ?_)
            refine bodyPost_ret (results_cell2 rfl _ _ O _ _ _ _ rfl HFz.out.stored Try.underlying50 rfl HFz.out.size (.int .i64 0) rfl) rfl ?_
            exact HPoO.out _ _ ⟨HFz.out.bel, .inr ⟨HE.out, A', C', rfl, own_base HOw9.out (by omega)⟩⟩
          · have hde : (ckE 1 bd M != 0) = true := by simp [he]
            have HFz := Lib.hid (Fin.mk2 (a := .int .i64 0) (b := .slice none 0 0) rfl rfl HO7.out HB7.out hOw)
            have HEn : Hid (poE l L ≠ 0) := Lib.hid (by rw [HE.out]; exact he)
            clear he
            generalize ckE 1 bd M = Ec at *
            go_wp2_with (refine wpList_store_mid rfl _ _ _ rfl O 0 [.int .i64 0, .slice none 0 0].toArray rfl rfl HFz.out.there HFz.out.size HFz.out.one ?_)
            refine bodyPost_ret (results_cell2 rfl _ _ O _ _ _ _ rfl HFz.out.stored Try.underlying50 rfl HFz.out.size (.int .i64 Ec) rfl) rfl ?_
            exact HPoO.out _ _ ⟨HFz.out.bel, .inl ⟨HEn.out, by rw [HE.out]; rfl⟩⟩
    · obtain rfl : T = 116 := h116
      have HPE2 : Hid (poE l L = if (M : Int) < N then 14 else if N < (M : Int) then 15 else ckE 2 bd M) := Lib.hid (by rw [HPE.out]; rw [show poK 116 = 2 from rfl, if_neg (by decide)])
      rw [show poK 116 = 2 from rfl] at HPoO
      clear HPE
      by_cases hlt : (M : Int) < N
      · have HE : Hid (poE l L = 14) := Lib.hid (by rw [HPE2.out, if_pos hlt])
        have hdl : decide ((M : Int) < N) = true := by simp [hlt]
        clear hlt hcut2 hcut3
        go_wp2_with fail
        refine HGt.out.mono ?_
        rintro e w' ⟨rfl, rfl⟩
        go_wp2_with (refine wpList_store_mid rfl _ _ _ rfl O 0 [.int .i64 0, .slice none 0 0].toArray rfl rfl HFz.out.there HFz.out.size HFz.out.one ?_)
        refine bodyPost_ret (results_cell2 rfl _ _ O _ _ _ _ rfl HFz.out.stored Try.underlying50 rfl HFz.out.size (.int .i64 14) rfl) rfl ?_
        exact HPoO.out _ _ ⟨HFz.out.bel, .inl ⟨by rw [HE.out]; decide, by rw [HE.out]; rfl⟩⟩
      · have hdl : decide ((M : Int) < N) = false := by simp; omega
        by_cases hgt : N < (M : Int)
        · have HE : Hid (poE l L = 15) := Lib.hid (by rw [HPE2.out, if_neg hlt, if_pos hgt])
          have hdg : decide (N < (M : Int)) = true := by simp [hgt]
          clear hlt hgt hcut2 hcut3
          go_wp2_with fail
          refine HGt.out.mono ?_
          rintro e w' ⟨rfl, rfl⟩
          go_wp2_with (refine wpList_store_mid rfl _ _ _ rfl O 0 [.int .i64 0, .slice none 0 0].toArray rfl rfl HFz.out.there HFz.out.size HFz.out.one ?_)
          refine bodyPost_ret (results_cell2 rfl _ _ O _ _ _ _ rfl HFz.out.stored Try.underlying50 rfl HFz.out.size (.int .i64 15) rfl) rfl ?_
          exact HPoO.out _ _ ⟨HFz.out.bel, .inl ⟨by rw [HE.out]; decide, by rw [HE.out]; rfl⟩⟩
        · have hdg : decide (N < (M : Int)) = false := by simp; omega
          have HE : Hid (poE l L = ckE 2 bd M) := Lib.hid (by rw [HPE2.out, if_neg hlt, if_neg hgt])
          have hba := (Below.refl w1.heap.size w1).alloc (Nat.le_refl _) (.cells #[] 5)
          have HRa := Lib.hid (HRc.out.below hba)
          have HBa := Lib.hid hba
          have hsa := al_le w1 (.cells #[] 5)
          have hO1 : O < w1.heap.size := HO2.out.lt
          clear hlt hgt hba HPE2 HFz
          go_wp2_with fail
          refine HGt.out.mono ?_
          rintro e wq ⟨rfl, hwq⟩
          rw [hwq]
          clear hwq wq
          go_wp2_with (refine wpList_append_rd _ rfl _ _ rfl w1.heap.size _ 0 [] rfl (own_lit0 w1) A2 M (C - 5) bd rfl HRa.out (by omega) hsa ?_)
          intro A' C' w5 ho hb
          have hb5 : Below w1.heap.size w1 w5 := HBa.out.trans hb
          have HOw5 := Lib.hid ho
          have HB5 := Lib.hid (HB1.out.trans (hb5.mono HB1.out.size))
          have HO5 := Lib.hid (World.rowIs.of_block HO2.out (hb5.block O HO2.out.lt))
          have hs1 : w.heap.size ≤ w1.heap.size := HB1.out.size
          have hs5 : w1.heap.size ≤ w5.heap.size := hb5.size
          have hbx := HB5.out.alloc (show w.heap.size ≤ w5.heap.size by omega) (.cells #[.int .i64 0, .slice none 0 0] 50)
          have hrx : (w5.alloc (.cells #[.int .i64 0, .slice none 0 0] 50)).rowIs w5.heap.size 50 2 (fun i => (#[.int .i64 0, .slice none 0 0] : Array Value).getD i undef) := row_new w5 #[.int .i64 0, .slice none 0 0] 50
          have HFx := Lib.hid (Fin.mk2 (a := .int .i64 2) (b := .slice A' M C') rfl rfl hrx hbx (show w.heap.size ≤ w5.heap.size by omega))
          have hb6 : Below w5.heap.size w5 ((w5.alloc (.cells #[.int .i64 0, .slice none 0 0] 50)).setCells w5.heap.size 0 [.int .i64 2, .slice A' M C']) := below_cells (Nat.le_refl _) _ _ _ ((Below.refl _ _).alloc (Nat.le_refl _) _)
          have HO6 := Lib.hid (World.rowIs.of_block HO5.out (hb6.block O HO5.out.lt))
          have HOw6 := Lib.hid (own_keep HOw5.out hb6)
          have HB6 := Lib.hid HFx.out.bel
          have HX6 := Lib.hid HFx.out.row2
          have hOX : O < w5.heap.size := HO5.out.lt
          clear ho hb hb5 hbx hrx hb6 HO5 HB5 HOw5
          go_upto_region 18 with (refine wpList_store_mid rfl _ _ _ rfl w5.heap.size 0 [.int .i64 2, .slice A' M C'].toArray rfl rfl HFx.out.there HFx.out.size HFx.out.one ?_)
          change Code.wp _ _ _ _ ((w5.alloc (.cells #[.int .i64 0, .slice none 0 0] 50)).setCells w5.heap.size 0 [.int .i64 2, .slice A' M C'])
          clear HFx HRa HBa hsa HB1 HO2 HRc HRd1
          generalize (w5.alloc (.cells #[.int .i64 0, .slice none 0 0] 50)).setCells w5.heap.size 0 [.int .i64 2, .slice A' M C'] = w6 at *
          generalize w5.heap.size = X at *
          have hcx0 : w6.cell? ⟨X, 0, none⟩ = some (.int .i64 2) := HX6.out.cell (i := 0) (by omega)
          have hcx1 : w6.cell? ⟨X, 1, none⟩ = some (.slice A' M C') := HX6.out.cell (i := 1) (by omega)
          have HRd6 := Lib.hid (RdB.of_own2 HOw6.out (by omega) HBy.out)
          have HCk := Lib.hid (rbody_any 2 A' M C' bd w6 HRd6.out)
          have hX6 := HX6.out.lt
          go_wp2_with fail
          refine HCk.out.mono ?_
          rintro e w7 ⟨rfl, hb⟩
          have HB7 := Lib.hid (HB6.out.trans (hb.mono (by have := HB6.out.size; omega)))
          have HO7 := Lib.hid (World.rowIs.of_block HO6.out (hb.block O HO6.out.lt))
          have HX7 := Lib.hid (World.rowIs.of_block HX6.out (hb.block X hX6))
          have HOw7 := Lib.hid (own_keep HOw6.out hb)
          clear hb HCk HB6 HO6 HX6 HRd6 hcx0 hcx1 HOw6
          have hc0 : w7.cell? ⟨X, 0, none⟩ = some (.int .i64 2) := HX7.out.cell (i := 0) (by omega)
          have hc1 : w7.cell? ⟨X, 1, none⟩ = some (.slice A' M C') := HX7.out.cell (i := 1) (by omega)
          by_cases he : ckE 2 bd M = 0
          · rw [he] at HE ⊢
            have HFz := Lib.hid (Fin.mk2 (a := .int .i64 2) (b := .slice A' M C') rfl rfl HO7.out HB7.out hOw)
            have HOw9 := Lib.hid (own_grown HOw7.out (grown_cells _ O [.int .i64 2, .slice A' M C'] 0) (fun e => by have := (HOw7.out.lt O e).1; omega))
            clear HB7 HO7 HX7 he
            go_wp2_with (refine wpList_store_mid rfl _ _ _ rfl O 0 [.int .i64 2, .slice A' M C'].toArray rfl rfl HFz.out.there HFz.out.size HFz.out.one ?_)
            refine bodyPost_ret (results_cell2 rfl _ _ O _ _ _ _ rfl HFz.out.stored Try.underlying50 rfl HFz.out.size (.int .i64 0) rfl) rfl ?_
            exact HPoO.out _ _ ⟨HFz.out.bel, .inr ⟨HE.out, A', C', rfl, own_base HOw9.out (by omega)⟩⟩
          · have hde : (ckE 2 bd M != 0) = true := by simp [he]
            have HFz := Lib.hid (Fin.mk2 (a := .int .i64 0) (b := .slice none 0 0) rfl rfl HO7.out HB7.out hOw)
            have HEn : Hid (poE l L ≠ 0) := Lib.hid (by rw [HE.out]; exact he)
            clear he
            generalize ckE 2 bd M = Ec at *
            go_wp2_with (refine wpList_store_mid rfl _ _ _ rfl O 0 [.int .i64 0, .slice none 0 0].toArray rfl rfl HFz.out.there HFz.out.size HFz.out.one ?_)
            refine bodyPost_ret (results_cell2 rfl _ _ O _ _ _ _ rfl HFz.out.stored Try.underlying50 rfl HFz.out.size (.int .i64 Ec) rfl) rfl ?_
            exact HPoO.out _ _ ⟨HFz.out.bel, .inl ⟨HEn.out, by rw [HE.out]; rfl⟩⟩
    · obtain rfl : T = 99 := h99
      have HPE2 : Hid (poE l L = if (M : Int) < N then 14 else if N < (M : Int) then 15 else ckE 3 bd M) := Lib.hid (by rw [HPE.out]; rw [show poK 99 = 3 from rfl, if_neg (by decide)])
      rw [show poK 99 = 3 from rfl] at HPoO
      clear HPE
      by_cases hlt : (M : Int) < N
      · have HE : Hid (poE l L = 14) := Lib.hid (by rw [HPE2.out, if_pos hlt])
        have hdl : decide ((M : Int) < N) = true := by simp [hlt]
        clear hlt hcut2 hcut3
        go_wp2_with fail
        refine HGt.out.mono ?_
        rintro e w' ⟨rfl, rfl⟩
        go_wp2_with (refine wpList_store_mid rfl _ _ _ rfl O 0 [.int .i64 0, .slice none 0 0].toArray rfl rfl HFz.out.there HFz.out.size HFz.out.one ?_)
        refine bodyPost_ret (results_cell2 rfl _ _ O _ _ _ _ rfl HFz.out.stored Try.underlying50 rfl HFz.out.size (.int .i64 14) rfl) rfl ?_
        exact HPoO.out _ _ ⟨HFz.out.bel, .inl ⟨by rw [HE.out]; decide, by rw [HE.out]; rfl⟩⟩
      · have hdl : decide ((M : Int) < N) = false := by simp; omega
        by_cases hgt : N < (M : Int)
        · have HE : Hid (poE l L = 15) := Lib.hid (by rw [HPE2.out, if_neg hlt, if_pos hgt])
          have hdg : decide (N < (M : Int)) = true := by simp [hgt]
          clear hlt hgt hcut2 hcut3
          go_wp2_with fail
          refine HGt.out.mono ?_
          rintro e w' ⟨rfl, rfl⟩
          go_wp2_with (refine wpList_store_mid rfl _ _ _ rfl O 0 [.int .i64 0, .slice none 0 0].toArray rfl rfl HFz.out.there HFz.out.size HFz.out.one ?_)
          refine bodyPost_ret (results_cell2 rfl _ _ O _ _ _ _ rfl HFz.out.stored Try.underlying50 rfl HFz.out.size (.int .i64 15) rfl) rfl ?_
          exact HPoO.out _ _ ⟨HFz.out.bel, .inl ⟨by rw [HE.out]; decide, by rw [HE.out]; rfl⟩⟩
        · have hdg : decide (N < (M : Int)) = false := by simp; omega
          have HE : Hid (poE l L = ckE 3 bd M) := Lib.hid (by rw [HPE2.out, if_neg hlt, if_neg hgt])
          have hba := (Below.refl w1.heap.size w1).alloc (Nat.le_refl _) (.cells #[] 5)
          have HRa := Lib.hid (HRc.out.below hba)
          have HBa := Lib.hid hba
          have hsa := al_le w1 (.cells #[] 5)
          have hO1 : O < w1.heap.size := HO2.out.lt
          clear hlt hgt hba HPE2 HFz
          go_wp2_with fail
          refine HGt.out.mono ?_
          rintro e wq ⟨rfl, hwq⟩
          rw [hwq]
          clear hwq wq
          go_wp2_with (refine wpList_append_rd _ rfl _ _ rfl w1.heap.size _ 0 [] rfl (own_lit0 w1) A2 M (C - 5) bd rfl HRa.out (by omega) hsa ?_)
          intro A' C' w5 ho hb
          have hb5 : Below w1.heap.size w1 w5 := HBa.out.trans hb
          have HOw5 := Lib.hid ho
          have HB5 := Lib.hid (HB1.out.trans (hb5.mono HB1.out.size))
          have HO5 := Lib.hid (World.rowIs.of_block HO2.out (hb5.block O HO2.out.lt))
          have hs1 : w.heap.size ≤ w1.heap.size := HB1.out.size
          have hs5 : w1.heap.size ≤ w5.heap.size := hb5.size
          have hbx := HB5.out.alloc (show w.heap.size ≤ w5.heap.size by omega) (.cells #[.int .i64 0, .slice none 0 0] 50)
          have hrx : (w5.alloc (.cells #[.int .i64 0, .slice none 0 0] 50)).rowIs w5.heap.size 50 2 (fun i => (#[.int .i64 0, .slice none 0 0] : Array Value).getD i undef) := row_new w5 #[.int .i64 0, .slice none 0 0] 50
          have HFx := Lib.hid (Fin.mk2 (a := .int .i64 3) (b := .slice A' M C') rfl rfl hrx hbx (show w.heap.size ≤ w5.heap.size by omega))
          have hb6 : Below w5.heap.size w5 ((w5.alloc (.cells #[.int .i64 0, .slice none 0 0] 50)).setCells w5.heap.size 0 [.int .i64 3, .slice A' M C']) := below_cells (Nat.le_refl _) _ _ _ ((Below.refl _ _).alloc (Nat.le_refl _) _)
          have HO6 := Lib.hid (World.rowIs.of_block HO5.out (hb6.block O HO5.out.lt))
          have HOw6 := Lib.hid (own_keep HOw5.out hb6)
          have HB6 := Lib.hid HFx.out.bel
          have HX6 := Lib.hid HFx.out.row2
          have hOX : O < w5.heap.size := HO5.out.lt
          clear ho hb hb5 hbx hrx hb6 HO5 HB5 HOw5
          go_upto_region 18 with (refine wpList_store_mid rfl _ _ _ rfl w5.heap.size 0 [.int .i64 3, .slice A' M C'].toArray rfl rfl HFx.out.there HFx.out.size HFx.out.one ?_)
          change Code.wp _ _ _ _ ((w5.alloc (.cells #[.int .i64 0, .slice none 0 0] 50)).setCells w5.heap.size 0 [.int .i64 3, .slice A' M C'])
          clear HFx HRa HBa hsa HB1 HO2 HRc HRd1
          generalize (w5.alloc (.cells #[.int .i64 0, .slice none 0 0] 50)).setCells w5.heap.size 0 [.int .i64 3, .slice A' M C'] = w6 at *
          generalize w5.heap.size = X at *
          have hcx0 : w6.cell? ⟨X, 0, none⟩ = some (.int .i64 3) := HX6.out.cell (i := 0) (by omega)
          have hcx1 : w6.cell? ⟨X, 1, none⟩ = some (.slice A' M C') := HX6.out.cell (i := 1) (by omega)
          have HRd6 := Lib.hid (RdB.of_own2 HOw6.out (by omega) HBy.out)
          have HCk := Lib.hid (rbody_any 3 A' M C' bd w6 HRd6.out)
          have hX6 := HX6.out.lt
          go_wp2_with fail
          refine HCk.out.mono ?_
          rintro e w7 ⟨rfl, hb⟩
          have HB7 := Lib.hid (HB6.out.trans (hb.mono (by have := HB6.out.size; omega)))
          have HO7 := Lib.hid (World.rowIs.of_block HO6.out (hb.block O HO6.out.lt))
          have HX7 := Lib.hid (World.rowIs.of_block HX6.out (hb.block X hX6))
          have HOw7 := Lib.hid (own_keep HOw6.out hb)
          clear hb HCk HB6 HO6 HX6 HRd6 hcx0 hcx1 HOw6
          have hc0 : w7.cell? ⟨X, 0, none⟩ = some (.int .i64 3) := HX7.out.cell (i := 0) (by omega)
          have hc1 : w7.cell? ⟨X, 1, none⟩ = some (.slice A' M C') := HX7.out.cell (i := 1) (by omega)
          by_cases he : ckE 3 bd M = 0
          · rw [he] at HE ⊢
            have HFz := Lib.hid (Fin.mk2 (a := .int .i64 3) (b := .slice A' M C') rfl rfl HO7.out HB7.out hOw)
            have HOw9 := Lib.hid (own_grown HOw7.out (grown_cells _ O [.int .i64 3, .slice A' M C'] 0) (fun e => by have := (HOw7.out.lt O e).1; omega))
            clear HB7 HO7 HX7 he
            go_wp2_with (refine wpList_store_mid rfl _ _ _ rfl O 0 [.int .i64 3, .slice A' M C'].toArray rfl rfl HFz.out.there HFz.out.size HFz.out.one ?_)
            refine bodyPost_ret (results_cell2 rfl _ _ O _ _ _ _ rfl HFz.out.stored Try.underlying50 rfl HFz.out.size (.int .i64 0) rfl) rfl ?_
            exact HPoO.out _ _ ⟨HFz.out.bel, .inr ⟨HE.out, A', C', rfl, own_base HOw9.out (by omega)⟩⟩
          · have hde : (ckE 3 bd M != 0) = true := by simp [he]
            have HFz := Lib.hid (Fin.mk2 (a := .int .i64 0) (b := .slice none 0 0) rfl rfl HO7.out HB7.out hOw)
            have HEn : Hid (poE l L ≠ 0) := Lib.hid (by rw [HE.out]; exact he)
            clear he
            generalize ckE 3 bd M = Ec at *
            go_wp2_with (refine wpList_store_mid rfl _ _ _ rfl O 0 [.int .i64 0, .slice none 0 0].toArray rfl rfl HFz.out.there HFz.out.size HFz.out.one ?_)
            refine bodyPost_ret (results_cell2 rfl _ _ O _ _ _ _ rfl HFz.out.stored Try.underlying50 rfl HFz.out.size (.int .i64 Ec) rfl) rfl ?_
            exact HPoO.out _ _ ⟨HFz.out.bel, .inl ⟨HEn.out, by rw [HE.out]; rfl⟩⟩
    · have d1 : (T == 98) = false := by simp [h98]
      have d2 : (T == 116) = false := by simp [h116]
      have d3 : (T == 99) = false := by simp [h99]
      have HE : Hid (poE l L = 3) := Lib.hid (by
        rw [HPE.out, if_pos (by unfold poK; rw [if_neg h98, if_neg h116, if_neg h99])])
      clear h98 h116 h99 hcut2 hcut3
      go_wp2_with (refine wpList_store_mid rfl _ _ _ rfl O 0 [.int .i64 0, .slice none 0 0].toArray rfl rfl HFz.out.there HFz.out.size HFz.out.one ?_)
      refine bodyPost_ret (results_cell2 rfl _ _ O _ _ _ _ rfl HFz.out.stored Try.underlying50 rfl HFz.out.size (.int .i64 3) rfl) rfl ?_
      exact HPoO.out _ _ ⟨HFz.out.bel, .inl ⟨by rw [HE.out]; decide, by rw [HE.out]; rfl⟩⟩
end Go.Proofs.Ytmcmapgllaopmaa.Cd
end

section
/- Rows of bytes. -/
namespace Go.Proofs.Ytmcmapgllaopmaa.Sm
open Go.RowKit
set_option linter.unusedVariables false

theorem ret_int {k : IntKind} {a b : Int} (h : a = b) : Ending.returned (.int k a) = .returned (.int k b) := by rw [h]
theorem ret_bool {a b : Bool} (h : a = b) : Ending.returned (.bool a) = .returned (.bool b) := by rw [h]

/-- the call hands back a row of its own that holds xs; nothing below B turned -/
def OwnRet (B n : Nat) (xs : List Value) (w : World) (e : Ending) (w' : World) : Prop :=
  ∃ v', e = .returned v' ∧ w'.ownsRow B 5 1 v' n xs ∧ Below B w w'

def bv (l : List Int) : List Value := l.map (Value.int .u8)
theorem bv_one (l : List Int) : ∀ u ∈ bv l, u.oneCell' = true := by
  intro u hu
  obtain ⟨x, _, rfl⟩ := List.mem_map.1 hu
  rfl

theorem below_grown {B : Nat} {w w' : World} {v : Value} {n : Nat} {xs : List Value} (hB : B ≤ w.heap.size) (hown : w.ownsRow B 5 1 v n xs) (hg : w.grownBy w' v.ownBlock) : Below B w w' :=
  (Below.refl B w).grown hg hB (fun k hk => by
    rcases hown.2 with ⟨h, _⟩ | ⟨g', cap', cur, h, hge, _⟩
    · rw [h] at hk; simp [Value.ownBlock] at hk
    · rw [h] at hk; simp [Value.ownBlock] at hk; omega)

theorem new_cells (l : List Int) (w : World) (e : TypeId) : ∀ j u, (bv l)[j]? = some u → (w.alloc (.cells (bv l).toArray e)).cell? (Addr.add ⟨w.heap.size, 0, none⟩ j) = some u := by
  intro j u hj
  rw [show Addr.add ⟨w.heap.size, 0, none⟩ j = (⟨w.heap.size, j, none⟩ : Addr) from by simp [Addr.add]; omega, World.cell?_alloc_new]
  simpa using hj
theorem own_eq {w : World} {B e : Nat} {v : Value} {n m : Nat} {xs ys : List Value} (h : w.ownsRow B e 1 v n xs) (hx : xs = ys) (hn : n = m) : w.ownsRow B e 1 v m ys := by
  rw [← hx, ← hn]; exact h
end Go.Proofs.Ytmcmapgllaopmaa.Sm
end

section
/- The small functions of SHA-256. -/
namespace Go.Proofs.Ytmcmapgllaopmaa.Sm
open Go.RowKit
set_option linter.unusedVariables false

/-- a word turned right -/
def rot (x : Int) (n : Nat) : Int := bits .or .u32 (x / 2 ^ n) (x * 2 ^ (32 - n) % 4294967296)
def xr (x y : Int) : Int := bits .xor .u32 x y
def big (x : Int) (a b c : Nat) : Int := xr (xr (rot x a) (rot x b)) (rot x c)
def small (x : Int) (a b c : Nat) : Int := xr (xr (rot x a) (rot x b)) (x / 2 ^ c)

theorem below_drewN {B : Nat} {a w : World} (h : Below B a w) (n : Nat) : Below B a (w.drewN n) := ⟨h.os, h.tape, h.output, h.size, h.block⟩

set_option maxRecDepth 100000 in
theorem turn_any (x : Int) (n : Nat) (w : World) (h0 : 0 ≤ x) (h1 : x < 4294967296) (hn : 1 ≤ n) (hn2 : n ≤ 31) :
    Calls Try.prog 94 #[.int .u32 x, .int .i64 n] w fun e w' => e = .returned (.int .u32 (rot x n)) ∧ ∃ d, w' = w.drewN d := by
  go_enter Try.func94, Try.ntmps94
  go_wp2
  go_quiet (fail)
  go_wp2
  go_ret
  exact ⟨rfl, _, rfl⟩

theorem or_comm (x y : Int) : bits .or .u32 x y = bits .or .u32 y x := by
  simp only [bits, BitVec.or_comm]
theorem wrap_range (z : Int) : 0 ≤ IntKind.u32.wrap z ∧ IntKind.u32.wrap z < 4294967296 := by
  have e : IntKind.u32.wrap z = z % 4294967296 := by simp [IntKind.wrap, IntKind.signed, IntKind.bits]
  rw [e]
  omega
theorem bits_range (op : BinOp) (x y : Int) : 0 ≤ bits op .u32 x y ∧ bits op .u32 x y < 4294967296 := wrap_range _
theorem rot_range (x : Int) (n : Nat) : 0 ≤ rot x n ∧ rot x n < 4294967296 := bits_range _ _ _
theorem xr_range (x y : Int) : 0 ≤ xr x y ∧ xr x y < 4294967296 := bits_range _ _ _

theorem and31 (n : Nat) (hn : 1 ≤ n) (hn2 : n ≤ 31) : bits BinOp.and IntKind.u64 (IntKind.u64.wrap (-(n : Int))) 31 = ((32 - n : Nat) : Int) := by
  have h : ∀ n : Fin 32, 1 ≤ n.val → bits BinOp.and IntKind.u64 (IntKind.u64.wrap (-(n.val : Int))) 31 = ((32 - n.val : Nat) : Int) := by decide
  exact h ⟨n, by omega⟩ hn

set_option maxRecDepth 100000 in
theorem rot_any (x : Int) (n : Nat) (w : World) (h0 : 0 ≤ x) (h1 : x < 4294967296) (hn : 1 ≤ n) (hn2 : n ≤ 31) :
    Calls Try.prog 114 #[.int .u32 x, .int .i64 (-(n : Int))] w fun e w' => e = .returned (.int .u32 (rot x n)) ∧ w' = w := by
  have h31 := and31 n hn hn2
  have hm1 : 32 - n ≤ 31 := by omega
  have hm2 : (32 : Int) - ((32 - n : Nat) : Int) = (n : Int) := by omega
  have hr : rot x n = bits .or .u32 (x * 2 ^ (32 - n) % 4294967296) (x / 2 ^ n) := by rw [rot, or_comm]
  rw [hr]
  clear hr
  go_enter Try.func114, Try.ntmps114
  go_wp2
  go_ret
  exact ⟨rfl, rfl⟩

set_option maxRecDepth 100000 in
theorem big_any (x : Int) (a b c : Nat) (w : World) (h0 : 0 ≤ x) (h1 : x < 4294967296) (ha : 1 ≤ a ∧ a ≤ 31) (hb : 1 ≤ b ∧ b ≤ 31) (hc : 1 ≤ c ∧ c ≤ 31) :
    Calls Try.prog 115 #[.int .u32 x, .int .i64 a, .int .i64 b, .int .i64 c] w fun e w' => e = .returned (.int .u32 (big x a b c)) ∧ w' = w := by
  have na : IntKind.i64.wrap (-(a : Int)) = -(a : Int) := by simp [IntKind.wrap, IntKind.signed, IntKind.bits]; omega
  have nb : IntKind.i64.wrap (-(b : Int)) = -(b : Int) := by simp [IntKind.wrap, IntKind.signed, IntKind.bits]; omega
  have nc : IntKind.i64.wrap (-(c : Int)) = -(c : Int) := by simp [IntKind.wrap, IntKind.signed, IntKind.bits]; omega
  go_enter Try.func115, Try.ntmps115
  go_wp2_with fail
  refine (rot_any x a w h0 h1 ha.1 ha.2).mono ?_
  rintro e w1 ⟨rfl, rfl⟩
  go_wp2_with fail
  refine (rot_any x b _ h0 h1 hb.1 hb.2).mono ?_
  rintro e w2 ⟨rfl, rfl⟩
  go_wp2_with fail
  refine (rot_any x c _ h0 h1 hc.1 hc.2).mono ?_
  rintro e w3 ⟨rfl, rfl⟩
  go_wp2
  go_ret
  exact ⟨rfl, rfl⟩

end Go.Proofs.Ytmcmapgllaopmaa.Sm
end

section
/- small, word and putWord. -/
namespace Go.Proofs.Ytmcmapgllaopmaa.Sm
open Go.RowKit
set_option linter.unusedVariables false

set_option maxRecDepth 100000 in
theorem small_any (x : Int) (a b c : Nat) (w : World) (h0 : 0 ≤ x) (h1 : x < 4294967296) (ha : 1 ≤ a ∧ a ≤ 31) (hb : 1 ≤ b ∧ b ≤ 31) (hc : 1 ≤ c ∧ c ≤ 31) :
    Calls Try.prog 112 #[.int .u32 x, .int .i64 a, .int .i64 b, .int .i64 c] w fun e w' => e = .returned (.int .u32 (small x a b c)) ∧ ∃ d, w' = w.drewN d := by
  have na : IntKind.i64.wrap (-(a : Int)) = -(a : Int) := by simp [IntKind.wrap, IntKind.signed, IntKind.bits]; omega
  have nb : IntKind.i64.wrap (-(b : Int)) = -(b : Int) := by simp [IntKind.wrap, IntKind.signed, IntKind.bits]; omega
  have hc2 := hc.2
  have HA := Lib.hid (fun w => rot_any x a w h0 h1 ha.1 ha.2)
  have HC := Lib.hid (fun w => rot_any x b w h0 h1 hb.1 hb.2)
  clear ha hb hc
  go_enter Try.func112, Try.ntmps112
  go_wp2_with fail
  go_region_held3 (fun wS => ∃ d, wS = w.drewN d) (first | exact ⟨1, rfl⟩ | assumption) (first
    | (go_at_call 114; with_reducible refine (HA.out _).mono ?_; rintro e w1 ⟨rfl, rfl⟩)
    | (go_at_call 114; with_reducible refine (HC.out _).mono ?_; rintro e w1 ⟨rfl, rfl⟩))
  all_goals go_wp2
  all_goals go_ret
  all_goals exact ⟨rfl, 1, rfl⟩

/-- four bytes as a word -/
def word4 (p q r s : Int) : Int := bits .or .u32 (bits .or .u32 (bits .or .u32 (p * 16777216) (q * 65536)) (r * 256)) s

set_option maxRecDepth 100000 in
theorem word_any (g o n c : Nat) (p q r s : Int) (w : World) (hn : 4 ≤ n) (hp : w.cell? ⟨g, o, none⟩ = some (.int .u8 p)) (hq : w.cell? ⟨g, o + 1, none⟩ = some (.int .u8 q)) (hr : w.cell? ⟨g, o + 2, none⟩ = some (.int .u8 r)) (hs : w.cell? ⟨g, o + 3, none⟩ = some (.int .u8 s))
    (p0 : 0 ≤ p ∧ p ≤ 255) (q0 : 0 ≤ q ∧ q ≤ 255) (r0 : 0 ≤ r ∧ r ≤ 255) (s0 : 0 ≤ s ∧ s ≤ 255) :
    Calls Try.prog 111 #[.slice (some ⟨g, o, none⟩) n c] w fun e w' => e = .returned (.int .u32 (word4 p q r s)) ∧ ∃ d, w' = w.drewN d := by
  obtain ⟨p0, p1⟩ := p0
  obtain ⟨q0, q1⟩ := q0
  obtain ⟨r0, r1⟩ := r0
  obtain ⟨s0, s1⟩ := s0
  go_enter Try.func111, Try.ntmps111
  go_wp2_with fail
  go_quiet (fail)
  go_wp2
  go_ret
  exact ⟨rfl, _, rfl⟩
end Go.Proofs.Ytmcmapgllaopmaa.Sm
end

section
/- SHA-256 by words, as plain functions. -/
namespace Go.Proofs.Ytmcmapgllaopmaa.Sm
open Go.RowKit

def ad (x y : Int) : Int := (x + y) % 4294967296
def an (x y : Int) : Int := bits .and .u32 x y
def ch (e f g : Int) : Int := xr (an e f) (an (xr IntKind.u32.max e) g)
def maj (a b c : Int) : Int := xr (xr (an a b) (an a c)) (an b c)

structure W8 where
  a : Int
  b : Int
  c : Int
  d : Int
  e : Int
  f : Int
  g : Int
  h : Int

def W8.at (s : W8) : Nat → Int
  | 0 => s.a | 1 => s.b | 2 => s.c | 3 => s.d | 4 => s.e | 5 => s.f | 6 => s.g | _ => s.h

/-- one round -/
def step (s : W8) (k w : Int) : W8 :=
  ⟨ad (ad (ad (ad (ad s.h (big s.e 6 11 25)) (ch s.e s.f s.g)) k) w) (ad (big s.a 2 13 22) (maj s.a s.b s.c)), s.a, s.b, s.c, ad s.d (ad (ad (ad (ad s.h (big s.e 6 11 25)) (ch s.e s.f s.g)) k) w), s.e, s.f, s.g⟩
def steps (kf wf : Nat → Int) : Nat → W8 → W8
  | 0, s => s
  | t + 1, s => step (steps kf wf t s) (kf t) (wf t)

theorem steps_congr {kf kg wf wg : Nat → Int} (n : Nat) (s : W8) (hk : ∀ t, t < n → kf t = kg t) (hw : ∀ t, t < n → wf t = wg t) : steps kf wf n s = steps kg wg n s := by
  induction n with
  | zero => rfl
  | succ n ih => rw [steps, steps, ih (fun t h => hk t (by omega)) (fun t h => hw t (by omega)), hk n (by omega), hw n (by omega)]

theorem ad_range (x y : Int) : 0 ≤ ad x y ∧ ad x y < 4294967296 := by unfold ad; omega

/-- all eight words in their range -/
def W8.ok (s : W8) : Prop := ∀ i, 0 ≤ s.at i ∧ s.at i < 4294967296

/-- both states, word by word -/
def mixin (s t : W8) : W8 := ⟨ad s.a t.a, ad s.b t.b, ad s.c t.c, ad s.d t.d, ad s.e t.e, ad s.f t.f, ad s.g t.g, ad s.h t.h⟩
theorem mixin_ok (s t : W8) : (mixin s t).ok := by
  intro i
  unfold mixin W8.at
  split <;> exact ad_range _ _

/-- the words of a block, and those behind them -/
def sched (m : Nat → Int) : Nat → Int
  | t => if h : t < 16 then m t else ad (ad (ad (small (sched m (t - 2)) 17 19 10) (sched m (t - 7))) (small (sched m (t - 15)) 7 18 3)) (sched m (t - 16))

theorem sched_low (m : Nat → Int) (t : Nat) (h : t < 16) : sched m t = m t := by
  rw [sched.eq_1, dif_pos h]
theorem sched_high (m : Nat → Int) (t : Nat) (h : 16 ≤ t) : sched m t = ad (ad (ad (small (sched m (t - 2)) 17 19 10) (sched m (t - 7))) (small (sched m (t - 15)) 7 18 3)) (sched m (t - 16)) := by
  rw [sched.eq_1, dif_neg (by omega)]

theorem word4_range (p q r s : Int) : 0 ≤ word4 p q r s ∧ word4 p q r s < 4294967296 := bits_range _ _ _

theorem sched_range (m : Nat → Int) (hm : ∀ t, 0 ≤ m t ∧ m t < 4294967296) (t : Nat) : 0 ≤ sched m t ∧ sched m t < 4294967296 := by
  by_cases h : t < 16
  · rw [sched_low m t h]; exact hm t
  · rw [sched_high m t (by omega)]; exact ad_range _ _

/-- a block: 64 bytes -/
def wordsOf (l : List Int) (t : Nat) : Int := word4 (l.getD (4 * t) 0) (l.getD (4 * t + 1) 0) (l.getD (4 * t + 2) 0) (l.getD (4 * t + 3) 0)
def block (kf : Nat → Int) (s : W8) (l : List Int) : W8 := mixin s (steps kf (sched (wordsOf l)) 64 s)
/-- as many blocks as are whole -/
def blocks (kf : Nat → Int) : Nat → W8 → List Int → W8
  | 0, s, _ => s
  | n + 1, s, l => blocks kf n (block kf s (l.take 64)) (l.drop 64)

end Go.Proofs.Ytmcmapgllaopmaa.Sm
end

section
/- The rounds of a block. -/
namespace Go.Proofs.Ytmcmapgllaopmaa.Sm
open Go.RowKit
set_option linter.unusedVariables false

/-- the state's words: k of them are mixed in -/
def mixF (F : Nat → Value) (s T : W8) (k : Nat) : Nat → Value := fun j => if j < k then .int .u32 (ad (s.at j) (T.at j)) else F j

theorem mix_cell {w : World} {H tH : Nat} {F : Nat → Value} {s T : W8} {k : Nat} (h : w.rowIs H tH 73 (mixF F s T k)) (hF : ∀ j, j < 8 → F j = .int .u32 (s.at j)) (hk : k < 8) : w.drew.cell? ⟨H, k, none⟩ = some (.int .u32 (s.at k)) := by
  have h1 := (World.rowIs.drew h).cell (i := k) (by omega)
  rw [h1, mixF, if_neg (by omega), hF k hk]
theorem mix_set {w : World} {H tH : Nat} {F : Nat → Value} {s T : W8} {k : Nat} (h : w.rowIs H tH 73 (mixF F s T k)) (hk : k < 8) : (w.drew.setCell ⟨H, k, none⟩ (.int .u32 (ad (s.at k) (T.at k)))).rowIs H tH 73 (mixF F s T (k + 1)) := by
  refine ((World.rowIs.drew h).set k _).congr fun j hj => ?_
  unfold mixF
  by_cases e : j = k
  · subst e
    rw [if_pos rfl, if_pos (by omega)]
  · rw [if_neg e]
    by_cases e2 : j < k
    · rw [if_pos e2, if_pos (by omega)]
    · rw [if_neg e2, if_neg (by omega)]

set_option maxRecDepth 100000 in
theorem idx8 (a b c d e f g hh : Int) (k : Nat) (hk : k < 8) (w : World) : (Instr.index 158 (.agg #[.int .u32 a, .int .u32 b, .int .u32 c, .int .u32 d, .int .u32 e, .int .u32 f, .int .u32 g, .int .u32 hh]) (.int .i64 k)).run Try.prog w = .ok (.int .u32 (W8.at ⟨a, b, c, d, e, f, g, hh⟩ k)) w := by
  rcases (show k = 0 ∨ k = 1 ∨ k = 2 ∨ k = 3 ∨ k = 4 ∨ k = 5 ∨ k = 6 ∨ k = 7 from by omega) with rfl | rfl | rfl | rfl | rfl | rfl | rfl | rfl <;> rfl

theorem grown_set {a w : World} {H : Nat} (h : a.grownBy w (some H)) (k : Nat) (v : Value) : a.grownBy (w.drew.setCell ⟨H, k, none⟩ v) (some H) :=
  ⟨h.os, h.tape, h.output, by simpa [World.setCell] using h.size, fun i hi hne => (Below.heap_setCell w.drew ⟨H, k, none⟩ v i (fun e => hne (by rw [e]))).trans (h.block i hi hne)⟩
theorem grown_drewN {a w : World} {H : Option Nat} (h : a.grownBy w H) (n : Nat) : a.grownBy (w.drewN n) H := ⟨h.os, h.tape, h.output, h.size, h.block⟩

set_option maxRecDepth 100000 in
set_option maxHeartbeats 1000000 in
theorem rounds_any (H tH W R : Nat) (F : Nat → Value) (s : W8) (kf wf : Nat → Int) (hok : s.ok) (w : World)
    (hrow : w.rowIs H tH 73 F) (hF : ∀ j, j < 8 → F j = .int .u32 (s.at j))
    (hw : ∀ t, t < 64 → w.cell? ⟨W, t, none⟩ = some (.int .u32 (wf t))) (hk : ∀ t, t < 64 → w.cell? ⟨R, t, none⟩ = some (.int .u32 (kf t))) :
    Calls Try.prog 113 #[.pointer (some ⟨H, 0, none⟩), .pointer (some ⟨W, 0, none⟩), .pointer (some ⟨R, 0, none⟩)] w fun e w' => e = .returned (.tuple #[]) ∧ w'.rowIs H tH 73 (mixF F s (steps kf wf 64 s) 8) ∧ w.grownBy w' (some H) := by
  have h0 : w.cell? ⟨H, 0, none⟩ = some (.int .u32 s.a) := by rw [hrow.cell (by omega), hF 0 (by omega)]; rfl
  have h1 : w.cell? ⟨H, 1, none⟩ = some (.int .u32 s.b) := by rw [hrow.cell (by omega), hF 1 (by omega)]; rfl
  have h2 : w.cell? ⟨H, 2, none⟩ = some (.int .u32 s.c) := by rw [hrow.cell (by omega), hF 2 (by omega)]; rfl
  have h3 : w.cell? ⟨H, 3, none⟩ = some (.int .u32 s.d) := by rw [hrow.cell (by omega), hF 3 (by omega)]; rfl
  have h4 : w.cell? ⟨H, 4, none⟩ = some (.int .u32 s.e) := by rw [hrow.cell (by omega), hF 4 (by omega)]; rfl
  have h5 : w.cell? ⟨H, 5, none⟩ = some (.int .u32 s.f) := by rw [hrow.cell (by omega), hF 5 (by omega)]; rfl
  have h6 : w.cell? ⟨H, 6, none⟩ = some (.int .u32 s.g) := by rw [hrow.cell (by omega), hF 6 (by omega)]; rfl
  have h7 : w.cell? ⟨H, 7, none⟩ = some (.int .u32 s.h) := by rw [hrow.cell (by omega), hF 7 (by omega)]; rfl
  have HRow := Lib.hid hrow
  have HF := Lib.hid hF
  clear hrow hF
  have HW := Lib.hid hw
  have HR := Lib.hid hk
  clear hw hk
  go_enter Try.func113, Try.ntmps113
  go_wp2
  go_quiet (fail)
  go_wp2
  go_loopw [7, 8, 9, 10, 11, 12, 13, 14, 55] (fun s7 s8 s9 s10 s11 s12 s13 s14 s55 wr => ∃ (t n : Nat) (a b c d e f g hh : Int), s7 = .int .u32 a ∧ s8 = .int .u32 b ∧ s9 = .int .u32 c ∧ s10 = .int .u32 d ∧ s11 = .int .u32 e ∧ s12 = .int .u32 f ∧ s13 = .int .u32 g ∧ s14 = .int .u32 hh ∧ s55 = .int .i64 t ∧ t ≤ 64 ∧ Hid (steps kf wf t s = ⟨a, b, c, d, e, f, g, hh⟩) ∧ Hid (0 ≤ a ∧ a < 4294967296) ∧ Hid (0 ≤ e ∧ e < 4294967296) ∧ wr = w.drewN n) (fun _ _ _ _ _ _ _ _ i _ => 64 - (intOf i).toNat)
  case atStart => exact ⟨0, _, s.a, s.b, s.c, s.d, s.e, s.f, s.g, s.h, rfl, rfl, rfl, rfl, rfl, rfl, rfl, rfl, rfl, by omega, Lib.hid rfl, Lib.hid (hok 0), Lib.hid (hok 4), rfl⟩
  case round =>
    obtain ⟨t, n, a, b, c, d, e, f, g, hh, rfl, rfl, rfl, rfl, rfl, rfl, rfl, rfl, rfl, ht, HS, HA, HE, rfl⟩ := hrel
    by_cases hlt : t < 64
    · have hcw : (w.drewN n).drew.cell? ⟨W, t, none⟩ = some (.int .u32 (wf t)) := HW.out t hlt
      have hck : (w.drewN n).drew.cell? ⟨R, t, none⟩ = some (.int .u32 (kf t)) := HR.out t hlt
      have HB1 : Hid (∀ w, Calls Try.prog 115 #[.int .u32 e, .int .i64 6, .int .i64 11, .int .i64 25] w fun e' w' => e' = .returned (.int .u32 (big e 6 11 25)) ∧ w' = w) := Lib.hid (fun w => big_any e 6 11 25 w HE.out.1 HE.out.2 (by omega) (by omega) (by omega))
      have HB2 : Hid (∀ w, Calls Try.prog 115 #[.int .u32 a, .int .i64 2, .int .i64 13, .int .i64 22] w fun e' w' => e' = .returned (.int .u32 (big a 2 13 22)) ∧ w' = w) := Lib.hid (fun w => big_any a 2 13 22 w HA.out.1 HA.out.2 (by omega) (by omega) (by omega))
      have ht1 : (t : Int) < 64 := by omega
      have ht0 : (0 : Int) ≤ t := by omega
      go_wp2_with fail
      go_region_held3 (fun wS => wS.cell? ⟨W, t, none⟩ = some (.int .u32 (wf t)) ∧ wS.cell? ⟨R, t, none⟩ = some (.int .u32 (kf t))) (exact ⟨hcw, hck⟩) (first | (go_at_call 115; with_reducible refine (HB1.out _).mono ?_; rintro e' w1 ⟨rfl, rfl⟩))
      go_wp2_with fail
      refine (HB2.out _).mono ?_
      rintro e' w1 ⟨rfl, rfl⟩
      go_wp2_with fail
      go_roundw
      case rel => exact ⟨t + 1, n + 1, _, _, _, _, _, _, _, _, rfl, rfl, rfl, rfl, rfl, rfl, rfl, rfl, by go_num, by omega, Lib.hid (by rw [steps, HS.out]; rfl), Lib.hid (ad_range _ _), Lib.hid (ad_range _ _), rfl⟩
      case measure => simp [intOf]; omega
    · have ht2 : t = 64 := by omega
      subst ht2
      clear HA HE HW HR hlt ht
      clear h0 h1 h2 h3 h4 h5 h6 h7
      have HX0 : Hid ((w.drewN n).rowIs H tH 73 (mixF F s ⟨a, b, c, d, e, f, g, hh⟩ 0)) := Lib.hid (World.rowIs.congr (f := F) HRow.out (fun j hj => by rw [mixF, if_neg (by omega)]))
      have HG0 : Hid (w.grownBy (w.drewN n) (some H)) := Lib.hid (grown_drewN (World.grownBy.refl w _) n)
      clear HRow
      go_wp2_with fail
      go_loopw [119] (fun i wr => ∃ k : Nat, i = .int .i64 k ∧ k ≤ 8 ∧ Hid (wr.rowIs H tH 73 (mixF F s ⟨a, b, c, d, e, f, g, hh⟩ k)) ∧ Hid (w.grownBy wr (some H))) (fun i _ => 8 - (intOf i).toNat)
      case atStart => exact ⟨0, rfl, by omega, HX0, HG0⟩
      case round =>
        clear HX0 HG0
        obtain ⟨k, rfl, hk8, HX, HG⟩ := hrel
        by_cases hlt8 : k < 8
        · have hk0 : (0 : Int) ≤ (k : Int) := by omega
          have hk1 : (k : Int) < 8 := by omega
          have hc : wr.drew.cell? ⟨H, k, none⟩ = some (.int .u32 (s.at k)) := mix_cell HX.out HF.out (by omega)
          have hf : wr.drew.frozen? ⟨H, k, none⟩ = false := (World.rowIs.drew HX.out).frozen _
          have hidx := idx8 a b c d e f g hh k hlt8
          have HX2 := Lib.hid (mix_set HX.out hlt8)
          have HG2 := Lib.hid (grown_set HG.out k (.int .u32 (ad (s.at k) (W8.at ⟨a, b, c, d, e, f, g, hh⟩ k))))
          have had : ad (s.at k) (W8.at ⟨a, b, c, d, e, f, g, hh⟩ k) = (s.at k + W8.at ⟨a, b, c, d, e, f, g, hh⟩ k) % 4294967296 := rfl
          rw [had] at HX2 HG2
          clear had HX HG
          generalize s.at k = X at *
          generalize W8.at ⟨a, b, c, d, e, f, g, hh⟩ k = Y at *
          go_wp2_with fail
          go_region
          all_goals (go_wp2_with fail)
          go_roundw
          case rel => exact ⟨k + 1, by go_num, by omega, HX2, HG2⟩
          case measure => simp [intOf]; omega
        · have hk2 : k = 8 := by omega
          subst hk2
          go_wp2_with fail
          go_end0
          exact ⟨rfl, by rw [HS.out]; exact HX.out, HG.out⟩
end Go.Proofs.Ytmcmapgllaopmaa.Sm
end

section
/- The constants of SHA-256. -/
namespace Go.Proofs.Ytmcmapgllaopmaa.Sm
open Go.RowKit
set_option linter.unusedVariables false

def kc : List Int := [1116352408, 1899447441, 3049323471, 3921009573, 961987163, 1508970993, 2453635748, 2870763221, 3624381080, 310598401, 607225278, 1426881987, 1925078388, 2162078206, 2614888103, 3248222580, 3835390401, 4022224774, 264347078, 604807628, 770255983, 1249150122, 1555081692, 1996064986, 2554220882, 2821834349, 2952996808, 3210313671, 3336571891, 3584528711, 113926993, 338241895, 666307205, 773529912, 1294757372, 1396182291, 1695183700, 1986661051, 2177026350, 2456956037, 2730485921, 2820302411, 3259730800, 3345764771, 3516065817, 3600352804, 4094571909, 275423344, 430227734, 506948616, 659060556, 883997877, 958139571, 1322822218, 1537002063, 1747873779, 1955562222, 2024104815, 2227730452, 2361852424, 2428436474, 2756734187, 3204031479, 3329325298]
def uv (l : List Int) : List Value := l.map (Value.int .u32)
theorem uv_one (l : List Int) : ∀ u ∈ uv l, u.oneCell' = true := by
  intro u hu
  obtain ⟨x, _, rfl⟩ := List.mem_map.1 hu
  rfl
def kf (t : Nat) : Int := kc.getD t 0

theorem al_lt (w : World) (o : Obj) : w.heap.size < (w.alloc o).heap.size := by show w.heap.size < (w.heap.push o).size; simp
theorem al_le (w : World) (o : Obj) : w.heap.size ≤ (w.alloc o).heap.size := Nat.le_of_lt (al_lt w o)
theorem frz_new (w : World) (z : Array Value) (t : TypeId) (j : Nat) : (w.alloc (.cells z t)).frozen? ⟨w.heap.size, j, none⟩ = false := by
  have h : (w.alloc (.cells z t)).heap[w.heap.size]? = some (.cells z t (0, 0)) := by show (w.heap.push _)[w.heap.size]? = _; simp
  simp only [World.frozen?, h]
  simp
theorem there_new (w : World) (z : Array Value) (t : TypeId) (n : Nat) (h : n ≤ z.size) : (w.alloc (.cells z t)).there w.heap.size 0 n := by
  intro j hj
  constructor
  · rw [Nat.zero_add, World.cell?_alloc_new]
    simp; omega
  · rw [Nat.zero_add]
    exact frz_new w z t j
theorem below_setCells {B : Nat} {a : World} (b : Nat) (hb : B ≤ b) : ∀ (vs : List Value) (o : Nat) (w : World), Below B a w → Below B a (w.setCells b o vs)
  | [], _, _, h => h
  | v :: vs, o, w, h => below_setCells b hb vs (o + 1) _ (h.setCell (p := ⟨b, o, none⟩) hb v)
/-- a row that is stored whole -/
theorem row_setCells (b : Nat) (t : TypeId) (n : Nat) : ∀ (vs : List Value) (o : Nat) (w : World) (f : Nat → Value), w.rowIs b t n f → (w.setCells b o vs).rowIs b t n (fun j => if o ≤ j ∧ j < o + vs.length then vs.getD (j - o) undef else f j)
  | [], o, w, f, h => h.congr fun j hj => by rw [if_neg (by simp)]
  | v :: vs, o, w, f, h => by
    refine (row_setCells b t n vs (o + 1) _ _ (h.set o v)).congr fun j hj => ?_
    by_cases e : j = o
    · subst e
      rw [if_neg (by omega), if_pos rfl, if_pos (by simp)]
      simp
    · by_cases e2 : o + 1 ≤ j ∧ j < o + 1 + vs.length
      · rw [if_pos e2, if_pos (by simp; omega)]
        have : j - o = (j - (o + 1)) + 1 := by omega
        rw [this]
        simp
      · rw [if_neg e2, if_neg e, if_neg (by simp; omega)]

theorem row_new (w : World) (z : Array Value) (t : TypeId) : (w.alloc (.cells z t)).rowIs w.heap.size t z.size (fun i => z.getD i undef) :=
  ⟨z, by show (w.heap.push _)[w.heap.size]? = _; simp, rfl, fun i hi => by simp [hi]⟩
/-- a row's block, its cells told by a list -/
theorem row_block {w : World} {b : Nat} {t : TypeId} {n : Nat} {f : Nat → Value} (h : w.rowIs b t n f) (l : List Value) (hl : l.length = n) (hf : ∀ i, i < n → f i = l.getD i undef) : w.heap[b]? = some (.cells l.toArray t (0, 0)) := by
  obtain ⟨c, hb, hn, hc⟩ := h
  have : c = l.toArray := by
    apply Array.ext_getElem?
    intro i
    by_cases hi : i < n
    · rw [hc i hi, hf i hi]
      simp [hl, hi]
    · rw [Array.getElem?_eq_none (by omega), Array.getElem?_eq_none (by simp; omega)]
  rw [hb, this]

theorem row_stored {w : World} {b : Nat} {t : TypeId} {n : Nat} {f : Nat → Value} (h : w.rowIs b t n f) (vs : List Value) (hl : vs.length = n) : (w.setCells b 0 vs).heap[b]? = some (.cells vs.toArray t (0, 0)) :=
  row_block (row_setCells b t n vs 0 w f h) vs hl (fun i hi => by rw [if_pos (by omega), Nat.sub_zero])

set_option maxRecDepth 100000 in
set_option maxHeartbeats 4000000 in
theorem consts_any (w : World) : Calls Try.prog 110 #[] w fun e w' => e = .returned (.agg (uv kc).toArray) ∧ Below w.heap.size w w' := by
  have H1 := Lib.hid (show (uv kc).toArray.all (·.oneCell') = true from all_oneCell_toArray (uv_one kc))
  have HS : Hid ((Try.prog.info? 157).map (·.size) = some (uv kc).toArray.size) := Lib.hid (by rw [List.size_toArray, uv, List.length_map]; kernel_rfl)
  go_enter Try.func110, Try.ntmps110
  go_wp2_with (refine wpList_store_mid rfl _ _ _ rfl w.heap.size 0 (uv kc).toArray rfl rfl (there_new w _ _ _ (Nat.le_refl 64)) HS.out H1.out ?_; generalize hX : World.setCells _ _ _ _ = wX; have HX := Lib.hid hX; clear hX)
  have hlen : (uv kc).length = 64 := by rw [uv, List.length_map]; rfl
  have hb : wX.heap[w.heap.size]? = some (.cells (uv kc).toArray 157 (0, 0)) := by
    rw [← HX.out]
    refine row_stored (row_new w _ _) (uv kc) ?_
    exact hlen
  have HB : Below w.heap.size w wX := by
    rw [← HX.out]
    exact below_setCells _ (Nat.le_refl _) _ _ _ ((Below.refl _ _).alloc (Nat.le_refl _) _)
  refine bodyPost_ret (results_cell_row rfl _ _ w.heap.size _ _ _ _ rfl hb Try.underlying157 rfl HS.out) rfl ?_
  exact ⟨rfl, HB⟩
end Go.Proofs.Ytmcmapgllaopmaa.Sm
end

section
/- Whole blocks are worked into the state. -/
namespace Go.Proofs.Ytmcmapgllaopmaa.Sm
open Go.RowKit
set_option linter.unusedVariables false

/-- the Hash's cells, with the state S -/
def stF (F : Nat → Value) (S : W8) : Nat → Value := fun j => if j < 8 then .int .u32 (S.at j) else F j

theorem mixF_at (F : Nat → Value) (s T : W8) (j : Nat) : mixF F s T 8 j = stF F (mixin s T) j := by
  unfold mixF stF
  by_cases h : j < 8
  · rw [if_pos h, if_pos h]
    rcases (show j = 0 ∨ j = 1 ∨ j = 2 ∨ j = 3 ∨ j = 4 ∨ j = 5 ∨ j = 6 ∨ j = 7 from by omega) with rfl | rfl | rfl | rfl | rfl | rfl | rfl | rfl <;> rfl
  · rw [if_neg h, if_neg h]
theorem stF_stF (F : Nat → Value) (S T : W8) (j : Nat) : stF (stF F S) T j = stF F T j := by
  unfold stF
  by_cases h : j < 8
  · rw [if_pos h, if_pos h]
  · rw [if_neg h, if_neg h, if_neg h]
theorem stF_mixF (F : Nat → Value) (S s T : W8) (j : Nat) : mixF (stF F S) s T 8 j = stF F (mixin s T) j := by
  rw [mixF_at, stF_stF]

structure Mx (w wr : World) (H tH : Nat) (F : Nat → Value) (S : W8) (W R : Nat) (fW : Nat → Value) : Prop where
  rowH : wr.rowIs H tH 73 (stF F S)
  rowW : wr.rowIs W 157 64 fW
  rowR : wr.rowIs R 157 64 (fun j => .int .u32 (kf j))
  gr : w.grownBy wr (some H)
  hHW : H ≠ W
  hHR : H ≠ R
  hWR : W ≠ R
  hW : w.heap.size ≤ W
  hR : w.heap.size ≤ R

theorem Mx.drewN {w wr : World} {H tH : Nat} {F : Nat → Value} {S : W8} {W R : Nat} {fW : Nat → Value} (h : Mx w wr H tH F S W R fW) (n : Nat) : Mx w (wr.drewN n) H tH F S W R fW :=
  ⟨h.rowH, h.rowW, h.rowR, grown_drewN h.gr n, h.hHW, h.hHR, h.hWR, h.hW, h.hR⟩
theorem Mx.same {w wr wr' : World} {H tH : Nat} {F : Nat → Value} {S : W8} {W R : Nat} {fW : Nat → Value} (h : Mx w wr H tH F S W R fW) (e1 : wr'.heap = wr.heap) (e2 : wr'.os = wr.os) (e3 : wr'.tape = wr.tape) (e4 : wr'.output = wr.output) : Mx w wr' H tH F S W R fW :=
  ⟨h.rowH.of_block (by rw [e1]), h.rowW.of_block (by rw [e1]), h.rowR.of_block (by rw [e1]), ⟨e2.trans h.gr.os, e3.trans h.gr.tape, e4.trans h.gr.output, by rw [e1]; exact h.gr.size, fun i hi hne => by rw [e1]; exact h.gr.block i hi hne⟩, h.hHW, h.hHR, h.hWR, h.hW, h.hR⟩
theorem Mx.setW {w wr : World} {H tH : Nat} {F : Nat → Value} {S : W8} {W R : Nat} {fW : Nat → Value} (h : Mx w wr H tH F S W R fW) (t : Nat) (v : Value) : Mx w (wr.setCell ⟨W, t, none⟩ v) H tH F S W R (fun j => if j = t then v else fW j) :=
  ⟨h.rowH.setOther h.hHW v, h.rowW.set t v, h.rowR.setOther (fun e => h.hWR e.symm) v,
    ⟨h.gr.os, h.gr.tape, h.gr.output, by simpa [World.setCell] using h.gr.size, fun i hi hne => (Below.heap_setCell wr ⟨W, t, none⟩ v i (by have := h.hW; show i ≠ W; omega)).trans (h.gr.block i hi hne)⟩, h.hHW, h.hHR, h.hWR, h.hW, h.hR⟩
theorem grown_trans {a b c : World} {H : Nat} (h : a.grownBy b (some H)) (k : b.grownBy c (some H)) : a.grownBy c (some H) :=
  ⟨k.os.trans h.os, k.tape.trans h.tape, k.output.trans h.output, Nat.le_trans h.size k.size, fun i hi hne => (k.block i (Nat.lt_of_lt_of_le hi h.size) hne).trans (h.block i hi hne)⟩
theorem Mx.mixed {w wr w' : World} {H tH : Nat} {F : Nat → Value} {S T : W8} {W R : Nat} {fW : Nat → Value} (h : Mx w wr H tH F S W R fW) (hr : w'.rowIs H tH 73 (mixF (stF F S) S T 8)) (hg : wr.grownBy w' (some H)) : Mx w w' H tH F (mixin S T) W R fW :=
  ⟨hr.congr (fun j _ => stF_mixF F S S T j), h.rowW.of_block (hg.block W h.rowW.lt (fun e => h.hHW (Option.some.inj e).symm)), h.rowR.of_block (hg.block R h.rowR.lt (fun e => h.hHR (Option.some.inj e).symm)), grown_trans h.gr hg, h.hHW, h.hHR, h.hWR, h.hW, h.hR⟩

/-- the words are laid up to t -/
def Wd (m : Nat → Int) (fW : Nat → Value) (t : Nat) : Prop := ∀ j, j < t → fW j = .int .u32 (sched m j)
theorem Wd.more {m : Nat → Int} {fW : Nat → Value} {t : Nat} (h : Wd m fW t) : Wd m (fun j => if j = t then .int .u32 (sched m t) else fW j) (t + 1) := by
  intro j hj
  show (if j = t then Value.int .u32 (sched m t) else fW j) = _
  by_cases e : j = t
  · subst e; rw [if_pos rfl]
  · rw [if_neg e]; exact h j (by omega)

/-- the bytes are there in whatever world the state has turned -/
def Byt (w : World) (H : Nat) (g o n : Nat) (l : List Int) : Prop :=
  ∀ w' : World, w.grownBy w' (some H) → (∀ j, 8 ≤ j → j < 73 → w'.cell? ⟨H, j, none⟩ = w.cell? ⟨H, j, none⟩) → ∀ i, i < n → w'.cell? ⟨g, o + i, none⟩ = some (.int .u8 (l.getD i 0))

theorem Mx.byte {w wr : World} {H tH : Nat} {F : Nat → Value} {S : W8} {W R : Nat} {fW : Nat → Value} (h : Mx w wr H tH F S W R fW) (hrow : w.rowIs H tH 73 F) {g o n : Nat} {l : List Int} (hb : Byt w H g o n l) (i : Nat) (hi : i < n) : wr.cell? ⟨g, o + i, none⟩ = some (.int .u8 (l.getD i 0)) :=
  hb wr h.gr (fun j h8 h73 => by rw [h.rowH.cell h73, hrow.cell h73, stF, if_neg (by omega)]) i hi

theorem Mx.byte2 {w wr : World} {H tH : Nat} {F : Nat → Value} {S : W8} {W R : Nat} {fW : Nat → Value} (h : Mx w wr H tH F S W R fW) (hrow : w.rowIs H tH 73 F) {g o n : Nat} {l : List Int} (hb : Byt w H g o n l) (i e : Nat) (he : e = o + i) (hi : i < n) : wr.cell? ⟨g, e, none⟩ = some (.int .u8 (l.getD i 0)) := by
  subst he; exact h.byte hrow hb i hi
theorem getD_block (l : List Int) (k i : Nat) (hi : i < 64) : ((l.drop k).take 64).getD i 0 = l.getD (k + i) 0 := by
  simp [List.getD, hi]
theorem wordsOf_block (l : List Int) (k t : Nat) (ht : t < 16) : wordsOf ((l.drop k).take 64) t = word4 (l.getD (k + 4 * t) 0) (l.getD (k + 4 * t + 1) 0) (l.getD (k + 4 * t + 2) 0) (l.getD (k + 4 * t + 3) 0) := by
  rw [wordsOf, getD_block _ _ _ (by omega), getD_block _ _ _ (by omega), getD_block _ _ _ (by omega), getD_block _ _ _ (by omega)]
  rfl

theorem blocks_cut (s : W8) (l : List Int) (n q : Nat) (hq : 64 ≤ n - 64 * q) (S : W8) : blocks kf ((n - 64 * q) / 64) S (l.drop (64 * q)) = blocks kf ((n - 64 * (q + 1)) / 64) (block kf S ((l.drop (64 * q)).take 64)) (l.drop (64 * (q + 1))) := by
  have e : (n - 64 * q) / 64 = (n - 64 * (q + 1)) / 64 + 1 := by omega
  rw [e, blocks, List.drop_drop]
  congr 2

theorem Mx.start {w w1 wX : World} {H tH : Nat} {F : Nat → Value} {s : W8} (hrow : w.rowIs H tH 73 F) (hF : ∀ j, j < 8 → F j = .int .u32 (s.at j)) (hb1 : Below w.heap.size w w1) {Z0 : Array Value} (hz0 : Z0.size = 64)
    (hX : (w1.alloc (.cells Z0 157)).setCells w1.heap.size 0 (uv kc) = wX) {Z : Array Value} (hz : Z.size = 64) :
    Mx w (wX.alloc (.cells Z 157)) H tH F s wX.heap.size w1.heap.size (fun i => Z.getD i undef) := by
  have hbX : Below w1.heap.size w1 wX := by
    rw [← hX]
    exact below_setCells _ (Nat.le_refl _) _ _ _ ((Below.refl _ _).alloc (Nat.le_refl _) _)
  have hR : wX.heap[w1.heap.size]? = some (.cells (uv kc).toArray 157 (0, 0)) := by
    rw [← hX]
    exact row_stored (hz0 ▸ row_new w1 Z0 _) (uv kc) (by rw [uv, List.length_map]; rfl)
  have hRlt : w1.heap.size < wX.heap.size := by
    rcases Nat.lt_or_ge w1.heap.size wX.heap.size with h | h
    · exact h
    · rw [Array.getElem?_eq_none h] at hR; simp at hR
  have hH := hrow.lt
  have hs1 := hb1.size
  have hwX : Below w.heap.size w wX := hb1.trans (hbX.mono hs1)
  have hw : Below w.heap.size w (wX.alloc (.cells Z 157)) := hwX.alloc hwX.size _
  refine ⟨?_, ?_, ?_, ⟨hw.os, hw.tape, hw.output, hw.size, fun i hi _ => hw.block i hi⟩, by omega, by omega, by omega, by omega, hs1⟩
  · refine World.rowIs.congr (f := F) (hrow.of_block (hw.block H hH)) (fun j hj => ?_)
    unfold stF
    by_cases h : j < 8
    · rw [if_pos h, hF j h]
    · rw [if_neg h]
  · have := row_new wX Z 157
    rwa [hz] at this
  · refine ⟨(uv kc).toArray, ?_, by rw [List.size_toArray, uv, List.length_map]; rfl, fun i hi => ?_⟩
    · rw [Below.heap_alloc _ _ _ hRlt]; exact hR
    · have hl : kc.length = 64 := rfl
      simp [uv, kf, List.getD, hl, hi]

end Go.Proofs.Ytmcmapgllaopmaa.Sm
end

section
/- mix, walked. -/
namespace Go.Proofs.Ytmcmapgllaopmaa.Sm
open Go.RowKit
set_option linter.unusedVariables false
set_option linter.unusedSimpArgs false

set_option maxRecDepth 100000 in
set_option maxHeartbeats 4000000 in
theorem mix_any (H tH : Nat) (F : Nat → Value) (s : W8) (hok : s.ok) (A : Option Addr) (g o n C : Nat) (l : List Int) (w : World) (hrow : w.rowIs H tH 73 F) (hF : ∀ j, j < 8 → F j = .int .u32 (s.at j))
    (hlen : l.length = n) (hn : n ≤ C) (hC : C ≤ 9223372036854775807) (hbig : n ≤ 140737488355328) (hA : 64 ≤ n → A = some ⟨g, o, none⟩) (hby : ∀ i, i < n → 0 ≤ l.getD i 0 ∧ l.getD i 0 ≤ 255) (hcell : Byt w H g o n l) :
    Calls Try.prog 109 #[.pointer (some ⟨H, 0, none⟩), .slice A n C] w fun e w' => e = .returned (.tuple #[]) ∧ w'.rowIs H tH 73 (stF F (blocks kf (n / 64) s l)) ∧ w.grownBy w' (some H) := by
  have HS : Hid ((Try.prog.info? 157).map (·.size) = some (uv kc).toArray.size) := Lib.hid (by rw [List.size_toArray, uv, List.length_map]; kernel_rfl)
  have H1 := Lib.hid (show (uv kc).toArray.all (·.oneCell') = true from all_oneCell_toArray (uv_one kc))
  have HRow := Lib.hid hrow
  have HF := Lib.hid hF
  have HBy := Lib.hid hby
  have HC := Lib.hid hcell
  have HA := Lib.hid hA
  have hHlt := hrow.lt
  clear hrow hF hby hcell hA
  go_enter Try.func109, Try.ntmps109
  go_wp2_with fail
  refine (consts_any w).mono ?_
  rintro e w1 ⟨rfl, hb1⟩
  have hsz1 := hb1.size
  have HB1 := Lib.hid hb1
  clear hb1
  generalize hKA : (uv kc).toArray = KA at *
  have HK := Lib.hid hKA
  clear hKA
  go_wp2_with (refine wpList_store_mid rfl _ _ _ rfl w1.heap.size 0 KA rfl rfl (there_new w1 _ _ _ (by rw [← HK.out]; decide)) HS.out H1.out ?_; generalize hX : World.setCells _ _ _ _ = wX; have HX := Lib.hid hX; clear hX)
  have HM : Hid (∀ Z : Array Value, Z.size = 64 → ∃ fW, Mx w (wX.alloc (.cells Z 157)) H tH F s wX.heap.size w1.heap.size fW) := Lib.hid (fun Z hz => by
    have h := HX.out
    rw [← HK.out] at h
    exact ⟨_, Mx.start HRow.out HF.out HB1.out rfl h hz⟩)
  have hM2 : ∃ fW, Mx w (wX.alloc (.cells #[.int .u32 0, .int .u32 0, .int .u32 0, .int .u32 0, .int .u32 0, .int .u32 0, .int .u32 0, .int .u32 0, .int .u32 0, .int .u32 0, .int .u32 0, .int .u32 0, .int .u32 0, .int .u32 0, .int .u32 0, .int .u32 0, .int .u32 0, .int .u32 0, .int .u32 0, .int .u32 0, .int .u32 0, .int .u32 0, .int .u32 0, .int .u32 0, .int .u32 0, .int .u32 0, .int .u32 0, .int .u32 0, .int .u32 0, .int .u32 0, .int .u32 0, .int .u32 0, .int .u32 0, .int .u32 0, .int .u32 0, .int .u32 0, .int .u32 0, .int .u32 0, .int .u32 0, .int .u32 0, .int .u32 0, .int .u32 0, .int .u32 0, .int .u32 0, .int .u32 0, .int .u32 0, .int .u32 0, .int .u32 0, .int .u32 0, .int .u32 0, .int .u32 0, .int .u32 0, .int .u32 0, .int .u32 0, .int .u32 0, .int .u32 0, .int .u32 0, .int .u32 0, .int .u32 0, .int .u32 0, .int .u32 0, .int .u32 0, .int .u32 0, .int .u32 0] 157)) H tH F s wX.heap.size w1.heap.size fW := HM.out _ rfl
  generalize hwS : wX.alloc (.cells #[.int .u32 0, .int .u32 0, .int .u32 0, .int .u32 0, .int .u32 0, .int .u32 0, .int .u32 0, .int .u32 0, .int .u32 0, .int .u32 0, .int .u32 0, .int .u32 0, .int .u32 0, .int .u32 0, .int .u32 0, .int .u32 0, .int .u32 0, .int .u32 0, .int .u32 0, .int .u32 0, .int .u32 0, .int .u32 0, .int .u32 0, .int .u32 0, .int .u32 0, .int .u32 0, .int .u32 0, .int .u32 0, .int .u32 0, .int .u32 0, .int .u32 0, .int .u32 0, .int .u32 0, .int .u32 0, .int .u32 0, .int .u32 0, .int .u32 0, .int .u32 0, .int .u32 0, .int .u32 0, .int .u32 0, .int .u32 0, .int .u32 0, .int .u32 0, .int .u32 0, .int .u32 0, .int .u32 0, .int .u32 0, .int .u32 0, .int .u32 0, .int .u32 0, .int .u32 0, .int .u32 0, .int .u32 0, .int .u32 0, .int .u32 0, .int .u32 0, .int .u32 0, .int .u32 0, .int .u32 0, .int .u32 0, .int .u32 0, .int .u32 0, .int .u32 0] 157) = wS at *
  obtain ⟨fW0, hM0⟩ := hM2
  have HM0 := Lib.hid hM0
  clear hwS HM hM0 HX HK H1 HS HB1
  generalize wX.heap.size = W at *
  generalize w1.heap.size = R at *
  go_loopw [1] (fun s1 wr => ∃ (A' : Option Addr) (m c q : Nat) (S : W8) (fW : Nat → Value), s1 = .slice A' m c ∧ m + 64 * q = n ∧ c + 64 * q = C ∧ Hid (64 ≤ m → A' = some ⟨g, o + 64 * q, none⟩) ∧ Hid (blocks kf (m / 64) S (l.drop (64 * q)) = blocks kf (n / 64) s l) ∧ Hid S.ok ∧ Hid (Mx w wr H tH F S W R fW)) (fun s1 _ => match s1 with | .slice _ m _ => m | _ => 0)
  case atStart => exact ⟨A, n, C, 0, s, fW0, rfl, by omega, by omega, HA, Lib.hid rfl, Lib.hid hok, HM0⟩
  case round =>
    clear HM0 HA
    obtain ⟨A, m, c, q, S, fW, rfl, hmq, hcq, HA, HS, HO, HM⟩ := hrel
    by_cases h64 : 64 ≤ m
    · have hA := HA.out h64
      subst hA
      have hd : decide ((64 : Int) ≤ (m : Int)) = true := by simp; omega
      have hm1 := hbig
      obtain ⟨mW, hmW⟩ : ∃ mW, mW = wordsOf ((l.drop (64 * q)).take 64) := ⟨_, rfl⟩
      have HMW := Lib.hid hmW
      clear hmW
      go_wp2_with fail
      go_loopw [14] (fun s14 wr => ∃ (t : Nat) (fW : Nat → Value), s14 = .int .i64 t ∧ t ≤ 16 ∧ Hid (Wd mW fW t) ∧ Hid (Mx w wr H tH F S W R fW)) (fun s14 _ => 16 - (intOf s14).toNat)
      case atStart => exact ⟨0, fW, rfl, by omega, Lib.hid (fun j hj => absurd hj (by omega)), HM⟩
      case round =>
        clear HM
        obtain ⟨t, fW, rfl, ht, HWd, HM⟩ := hrel
        by_cases hlt : t < 16
        · have ht0 : (0 : Int) ≤ (t : Int) := by omega
          have ht1 : (t : Int) < 16 := by omega
          have h4 : IntKind.i64.wrap (4 * (t : Int)) = ((4 * t : Nat) : Int) := by simp [IntKind.wrap, IntKind.signed, IntKind.bits]; omega
          have hc4 : ¬ c = 4 * t := by omega
          have hv : word4 (l.getD (64 * q + 4 * t) 0) (l.getD (64 * q + 4 * t + 1) 0) (l.getD (64 * q + 4 * t + 2) 0) (l.getD (64 * q + 4 * t + 3) 0) = sched mW t := by
            rw [HMW.out, sched_low _ _ hlt, wordsOf_block _ _ _ hlt]
          have HV := Lib.hid hv
          have HCl := Lib.hid (fun n' c' hn' => word_any g (o + 64 * q + 4 * t) n' c' _ _ _ _ wr hn' (HM.out.byte2 HRow.out HC.out (64 * q + 4 * t) _ (by omega) (by omega)) (HM.out.byte2 HRow.out HC.out (64 * q + 4 * t + 1) _ (by omega) (by omega)) (HM.out.byte2 HRow.out HC.out (64 * q + 4 * t + 2) _ (by omega) (by omega)) (HM.out.byte2 HRow.out HC.out (64 * q + 4 * t + 3) _ (by omega) (by omega)) (HBy.out _ (by omega)) (HBy.out _ (by omega)) (HBy.out _ (by omega)) (HBy.out _ (by omega)))
          clear hv
          go_wp2_with fail
          refine (HCl.out _ _ (by omega)).mono ?_
          rintro e wv ⟨rfl, d, rfl⟩
          rw [HV.out]
          have hcW : (wr.drewN d).cell? ⟨W, t, none⟩ = some (fW t) := (HM.out.drewN d).rowW.cell (by omega)
          have hfW : (wr.drewN d).frozen? ⟨W, t, none⟩ = false := (HM.out.drewN d).rowW.frozen _
          have HM2 := Lib.hid ((HM.out.drewN d).setW t (.int .u32 (sched mW t)))
          have HWd2 := Lib.hid (Wd.more HWd.out)
          have ht64 : (t : Int) < 64 := by omega
          clear HCl HV HM HWd
          generalize sched mW t = V at *
          go_wp2_with fail
          go_roundw
          case rel => exact ⟨t + 1, _, by go_num, by omega, HWd2, HM2⟩
          case measure => simp [intOf]; omega
        · have HWe : Hid (Wd mW fW 16) := by
            have ht2 : t = 16 := by omega
            rw [← ht2]; exact HWd
          have hd16 : decide ((t : Int) < 16) = false := by simp; omega
          clear HWd ht
          go_wp2_with fail
          clear hd16 hlt
          go_loopw [7] (fun s7 wr => ∃ (t : Nat) (fW : Nat → Value), s7 = .int .i64 t ∧ 16 ≤ t ∧ t ≤ 64 ∧ Hid (Wd mW fW t) ∧ Hid (Mx w wr H tH F S W R fW)) (fun s7 _ => 64 - (intOf s7).toNat)
          case atStart => exact ⟨16, fW, rfl, by omega, by omega, HWe, HM⟩
          case round =>
            clear HM HWe
            obtain ⟨t, fW, rfl, ht16, ht, HWd, HM⟩ := hrel
            by_cases hlt : t < 64
            · have ht0 : (0 : Int) ≤ (t : Int) := by omega
              have ht1 : (t : Int) < 64 := by omega
              obtain ⟨t2, e2⟩ : ∃ t2, t2 + 2 = t := ⟨t - 2, by omega⟩
              obtain ⟨t7, e7⟩ : ∃ t7, t7 + 7 = t := ⟨t - 7, by omega⟩
              obtain ⟨t15, e15⟩ : ∃ t15, t15 + 15 = t := ⟨t - 15, by omega⟩
              obtain ⟨t16, e16⟩ : ∃ t16, t16 + 16 = t := ⟨t - 16, by omega⟩
              have i2 : (t : Int) - 2 = (t2 : Int) := by omega
              have i7 : (t : Int) - 7 = (t7 : Int) := by omega
              have i15 : (t : Int) - 15 = (t15 : Int) := by omega
              have i16 : (t : Int) - 16 = (t16 : Int) := by omega
              have z2 : (0 : Int) ≤ (t2 : Int) := by omega
              have z7 : (0 : Int) ≤ (t7 : Int) := by omega
              have z15 : (0 : Int) ≤ (t15 : Int) := by omega
              have z16 : (0 : Int) ≤ (t16 : Int) := by omega
              have w2 : IntKind.i64.wrap (t2 : Int) = (t2 : Int) := by simp [IntKind.wrap, IntKind.signed, IntKind.bits]; omega
              have w7 : IntKind.i64.wrap (t7 : Int) = (t7 : Int) := by simp [IntKind.wrap, IntKind.signed, IntKind.bits]; omega
              have w15 : IntKind.i64.wrap (t15 : Int) = (t15 : Int) := by simp [IntKind.wrap, IntKind.signed, IntKind.bits]; omega
              have w16 : IntKind.i64.wrap (t16 : Int) = (t16 : Int) := by simp [IntKind.wrap, IntKind.signed, IntKind.bits]; omega
              have l2 : (t2 : Int) < 64 := by omega
              have l7 : (t7 : Int) < 64 := by omega
              have l15 : (t15 : Int) < 64 := by omega
              have l16 : (t16 : Int) < 64 := by omega
              have hsc : sched mW t = (((small (sched mW t2) 17 19 10 + sched mW t7) % 4294967296 + small (sched mW t15) 7 18 3) % 4294967296 + sched mW t16) % 4294967296 := by
                rw [sched_high _ _ ht16, show t - 2 = t2 by omega, show t - 7 = t7 by omega, show t - 15 = t15 by omega, show t - 16 = t16 by omega]
                rfl
              have HSC := Lib.hid hsc
              have hmr : ∀ j, 0 ≤ mW j ∧ mW j < 4294967296 := by rw [HMW.out]; exact fun j => word4_range _ _ _ _
              have r2 := sched_range mW hmr t2
              have r15 := sched_range mW hmr t15
              have HS2 : Hid (∀ w, Calls Try.prog 112 #[.int .u32 (sched mW t2), .int .i64 17, .int .i64 19, .int .i64 10] w fun e w' => e = .returned (.int .u32 (small (sched mW t2) 17 19 10)) ∧ ∃ d, w' = w.drewN d) := Lib.hid (fun w => small_any _ 17 19 10 w r2.1 r2.2 (by omega) (by omega) (by omega))
              have HS15 : Hid (∀ w, Calls Try.prog 112 #[.int .u32 (sched mW t15), .int .i64 7, .int .i64 18, .int .i64 3] w fun e w' => e = .returned (.int .u32 (small (sched mW t15) 7 18 3)) ∧ ∃ d, w' = w.drewN d) := Lib.hid (fun w => small_any _ 7 18 3 w r15.1 r15.2 (by omega) (by omega) (by omega))
              have hall : ∀ j, j < t → wr.cell? ⟨W, j, none⟩ = some (.int .u32 (sched mW j)) := fun j hj => by rw [HM.out.rowW.cell (by omega), HWd.out j hj]
              have hset : ∀ j, j < t → ∀ v, (wr.setCell ⟨W, t, none⟩ v).cell? ⟨W, j, none⟩ = some (.int .u32 (sched mW j)) := fun j hj v => by
                rw [World.cell?_setCell_other _ _ _ _ (by simp only [ne_eq, Addr.mk.injEq, not_and]; omega)]; exact hall j hj
              have c2 := hall t2 (by omega)
              have c7 := hall t7 (by omega)
              have c15 := hall t15 (by omega)
              have c16 := hall t16 (by omega)
              have s2 := Lib.hid (hset t2 (by omega))
              have s7 := Lib.hid (hset t7 (by omega))
              have s15 := Lib.hid (hset t15 (by omega))
              have s16 := Lib.hid (hset t16 (by omega))
              have hcW : wr.cell? ⟨W, t, none⟩ = some (fW t) := HM.out.rowW.cell (by omega)
              have hfW : wr.frozen? ⟨W, t, none⟩ = false := HM.out.rowW.frozen _
              have HWd2 := Lib.hid (Wd.more HWd.out)
              have HM2 := Lib.hid (fun v : Value => HM.out.setW t v)
              have hwx : IntKind.u32.wrap (IntKind.u32.wrap (IntKind.u32.wrap (small (sched mW t2) 17 19 10 + sched mW t7) + small (sched mW t15) 7 18 3) + sched mW t16) = sched mW t := by
                have hw : ∀ z, IntKind.u32.wrap z = z % 4294967296 := fun z => by simp [IntKind.wrap, IntKind.signed, IntKind.bits]
                rw [hw, hw, hw, hsc]
              clear hall hset hsc hmr e2 e7 e15 e16 r2 r15 HWd HM
              generalize sched mW t = X at *
              generalize sched mW t2 = X2 at *
              generalize sched mW t7 = X7 at *
              generalize sched mW t15 = X15 at *
              generalize sched mW t16 = X16 at *
              go_wp2_with fail
              refine wp_region_noPanic ?_
              refine wp_region_held_drew (S := (fun wS => wS.cell? ⟨W, t2, none⟩ = some (.int .u32 X2) ∧ wS.cell? ⟨W, t7, none⟩ = some (.int .u32 X7) ∧ wS.cell? ⟨W, t15, none⟩ = some (.int .u32 X15) ∧ wS.cell? ⟨W, t16, none⟩ = some (.int .u32 X16))) (by kernel_rfl) ?_ (fun hHeld => ?_)
              · ((try dsimp only); exact ⟨c2, c7, c15, c16⟩)
              refine wpAnyH_take (i := 0) (oi := _) (v := ?_) rfl (by kernel_rfl) (by kernel_rfl) (by kernel_rfl) (fun _ _ _ h => h) (Or.inl ⟨by rfl, ?_⟩) (by assumption) ?_
              rotate_left 1
              · ((intro w hSw; (try dsimp only at hSw); go_simp) <;> with_reducible rfl)
              (try simp only [Act.put, List.setIfInBounds_toArray, List.set_cons_zero, List.set_cons_succ])
              refine wpAnyH_take (i := 1) (oi := _) (v := ?_) rfl (by kernel_rfl) (by kernel_rfl) (by kernel_rfl) (fun _ _ _ h => h) (Or.inl ⟨by rfl, ?_⟩) (by assumption) ?_
              rotate_left 1
              · ((intro w hSw; (try dsimp only at hSw); go_simp) <;> with_reducible rfl)
              (try simp only [Act.put, List.setIfInBounds_toArray, List.set_cons_zero, List.set_cons_succ])
              refine wpAnyH_take (i := 2) (oi := _) (v := ?_) rfl (by kernel_rfl) (by kernel_rfl) (by kernel_rfl) (fun _ _ _ h => h) (Or.inl ⟨by rfl, ?_⟩) (by assumption) ?_
              rotate_left 1
              · ((intro w hSw; (try dsimp only at hSw); go_simp) <;> with_reducible rfl)
              (try simp only [Act.put, List.setIfInBounds_toArray, List.set_cons_zero, List.set_cons_succ])
              refine wpAnyH_take (i := 3) (oi := _) (v := ?_) rfl (by kernel_rfl) (by kernel_rfl) (by kernel_rfl) (fun _ _ _ h => h) (Or.inl ⟨by rfl, ?_⟩) (by assumption) ?_
              rotate_left 1
              · ((intro w hSw; (try dsimp only at hSw); go_simp) <;> with_reducible rfl)
              (try simp only [Act.put, List.setIfInBounds_toArray, List.set_cons_zero, List.set_cons_succ])
              refine wpAnyH_take (i := 4) (oi := _) (v := ?_) rfl (by kernel_rfl) (by kernel_rfl) (by kernel_rfl) (fun _ _ _ h => h) (Or.inl ⟨by rfl, ?_⟩) (by assumption) ?_
              rotate_left 1
              · ((intro w hSw; (try dsimp only at hSw); go_simp) <;> with_reducible rfl)
              (try simp only [Act.put, List.setIfInBounds_toArray, List.set_cons_zero, List.set_cons_succ])
              refine wpAnyH_take (i := 6) (oi := _) (v := ?_) rfl (by kernel_rfl) (by kernel_rfl) (by kernel_rfl) (fun _ _ _ h => h) (Or.inl ⟨by rfl, ?_⟩) (by assumption) ?_
              rotate_left 1
              · ((intro w hSw; (try dsimp only at hSw); go_simp) <;> with_reducible rfl)
              (try simp only [Act.put, List.setIfInBounds_toArray, List.set_cons_zero, List.set_cons_succ])
              refine wpAnyH_take (i := 7) (oi := _) (v := ?_) rfl (by kernel_rfl) (by kernel_rfl) (by kernel_rfl) (fun _ _ _ h => h) (Or.inl ⟨by rfl, ?_⟩) (by assumption) ?_
              rotate_left 1
              · ((intro w hSw; (try dsimp only at hSw); go_simp) <;> with_reducible rfl)
              (try simp only [Act.put, List.setIfInBounds_toArray, List.set_cons_zero, List.set_cons_succ])
              refine wpAnyH_take (i := 8) (oi := _) (v := ?_) rfl (by kernel_rfl) (by kernel_rfl) (by kernel_rfl) (fun _ _ _ h => h) (Or.inl ⟨by rfl, ?_⟩) (by assumption) ?_
              rotate_left 1
              · ((intro w hSw; (try dsimp only at hSw); go_simp) <;> with_reducible rfl)
              (try simp only [Act.put, List.setIfInBounds_toArray, List.set_cons_zero, List.set_cons_succ])
              refine wpAnyH_take (i := 9) (oi := _) (v := ?_) rfl (by kernel_rfl) (by kernel_rfl) (by kernel_rfl) (fun _ _ _ h => h) (Or.inl ⟨by rfl, ?_⟩) (by assumption) ?_
              rotate_left 1
              · ((intro w hSw; (try dsimp only at hSw); go_simp) <;> with_reducible rfl)
              (try simp only [Act.put, List.setIfInBounds_toArray, List.set_cons_zero, List.set_cons_succ])
              refine wpAnyH_take (i := 11) (oi := _) (v := ?_) rfl (by kernel_rfl) (by kernel_rfl) (by kernel_rfl) (fun _ _ _ h => h) (Or.inl ⟨by rfl, ?_⟩) (by assumption) ?_
              rotate_left 1
              · ((intro w hSw; (try dsimp only at hSw); go_simp) <;> with_reducible rfl)
              (try simp only [Act.put, List.setIfInBounds_toArray, List.set_cons_zero, List.set_cons_succ])
              refine wpAnyH_take (i := 12) (oi := _) (v := ?_) rfl (by kernel_rfl) (by kernel_rfl) (by kernel_rfl) (fun _ _ _ h => h) (Or.inl ⟨by rfl, ?_⟩) (by assumption) ?_
              rotate_left 1
              · ((intro w hSw; (try dsimp only at hSw); go_simp) <;> with_reducible rfl)
              (try simp only [Act.put, List.setIfInBounds_toArray, List.set_cons_zero, List.set_cons_succ])
              refine wpAnyH_take (i := 13) (oi := _) (v := ?_) rfl (by kernel_rfl) (by kernel_rfl) (by kernel_rfl) (fun _ _ _ h => h) (Or.inl ⟨by rfl, ?_⟩) (by assumption) ?_
              rotate_left 1
              · ((intro w hSw; (try dsimp only at hSw); go_simp) <;> with_reducible rfl)
              (try simp only [Act.put, List.setIfInBounds_toArray, List.set_cons_zero, List.set_cons_succ])
              refine wpAnyH_take (i := 14) (oi := _) (v := ?_) rfl (by kernel_rfl) (by kernel_rfl) (by kernel_rfl) (fun _ _ _ h => h) (Or.inl ⟨by rfl, ?_⟩) (by assumption) ?_
              rotate_left 1
              · ((intro w hSw; (try dsimp only at hSw); go_simp) <;> with_reducible rfl)
              (try simp only [Act.put, List.setIfInBounds_toArray, List.set_cons_zero, List.set_cons_succ])
              refine wpAnyH_take (i := 17) (oi := _) (v := ?_) rfl (by kernel_rfl) (by kernel_rfl) (by kernel_rfl) (fun _ _ _ h => h) (Or.inl ⟨by rfl, ?_⟩) (by assumption) ?_
              rotate_left 1
              · ((intro w hSw; (try dsimp only at hSw); go_simp) <;> with_reducible rfl)
              (try simp only [Act.put, List.setIfInBounds_toArray, List.set_cons_zero, List.set_cons_succ])
              refine wpAnyH_take (i := 18) (oi := _) (v := ?_) rfl (by kernel_rfl) (by kernel_rfl) (by kernel_rfl) (fun _ _ _ h => h) (Or.inl ⟨by rfl, ?_⟩) (by assumption) ?_
              rotate_left 1
              · ((intro w hSw; (try dsimp only at hSw); go_simp) <;> with_reducible rfl)
              (try simp only [Act.put, List.setIfInBounds_toArray, List.set_cons_zero, List.set_cons_succ])
              refine wpAnyH_take (i := 19) (oi := _) (v := ?_) rfl (by kernel_rfl) (by kernel_rfl) (by kernel_rfl) (fun _ _ _ h => h) (Or.inl ⟨by rfl, ?_⟩) (by assumption) ?_
              rotate_left 1
              · ((intro w hSw; (try dsimp only at hSw); go_simp) <;> with_reducible rfl)
              (try simp only [Act.put, List.setIfInBounds_toArray, List.set_cons_zero, List.set_cons_succ])
              refine wpAnyH_take (i := 20) (oi := _) (v := ?_) rfl (by kernel_rfl) (by kernel_rfl) (by kernel_rfl) (fun _ _ _ h => h) (Or.inl ⟨by rfl, ?_⟩) (by assumption) ?_
              rotate_left 1
              · ((intro w hSw; (try dsimp only at hSw); go_simp) <;> with_reducible rfl)
              (try simp only [Act.put, List.setIfInBounds_toArray, List.set_cons_zero, List.set_cons_succ])
              refine wpAnyH_ready (rs := [5]) (by kernel_rfl) (by simp) ?_
              refine AllReadyH.cons (o := _) rfl (fun K hK => ?_) ?_
              · go_simp
                with_reducible refine (HS2.out _).mono ?_
                rintro e' w1 ⟨rfl, d1, rfl⟩
                (try go_wp2_with fail)
                refine hK.out _ _ ?_ (fun hNew => ?_)
                · ((try dsimp only); first | exact ⟨c2, c7, c15, c16⟩ | exact ⟨s2.out _, s7.out _, s15.out _, s16.out _⟩)
                clear hK K hHeld
                have hHeld := hNew
                clear hNew
                (try simp only [Act.put, List.setIfInBounds_toArray, List.set_cons_zero, List.set_cons_succ])
                refine wpAnyH_take (i := 10) (oi := _) (v := ?_) rfl (by kernel_rfl) (by kernel_rfl) (by kernel_rfl) (fun _ _ _ h => h) (Or.inl ⟨by rfl, ?_⟩) (by assumption) ?_
                rotate_left 1
                · ((intro w hSw; (try dsimp only at hSw); go_simp) <;> with_reducible rfl)
                (try simp only [Act.put, List.setIfInBounds_toArray, List.set_cons_zero, List.set_cons_succ])
                refine wpAnyH_ready (rs := [15]) (by kernel_rfl) (by simp) ?_
                refine AllReadyH.cons (o := _) rfl (fun K hK => ?_) ?_
                · go_simp
                  with_reducible refine (HS15.out _).mono ?_
                  rintro e' w1 ⟨rfl, d2, rfl⟩
                  (try go_wp2_with fail)
                  refine hK.out _ _ ?_ (fun hNew => ?_)
                  · ((try dsimp only); first | exact ⟨c2, c7, c15, c16⟩ | exact ⟨s2.out _, s7.out _, s15.out _, s16.out _⟩)
                  clear hK K hHeld
                  have hHeld := hNew
                  clear hNew
                  (try simp only [Act.put, List.setIfInBounds_toArray, List.set_cons_zero, List.set_cons_succ])
                  refine wpAnyH_take (i := 16) (oi := _) (v := ?_) rfl (by kernel_rfl) (by kernel_rfl) (by kernel_rfl) (fun _ _ _ h => h) (Or.inl ⟨by rfl, ?_⟩) (by assumption) ?_
                  rotate_left 1
                  · ((intro w hSw; (try dsimp only at hSw); go_simp) <;> with_reducible rfl)
                  (try simp only [Act.put, List.setIfInBounds_toArray, List.set_cons_zero, List.set_cons_succ])
                  refine wpAnyH_take (i := 21) (oi := _) (v := ?_) rfl (by kernel_rfl) (by kernel_rfl) (by kernel_rfl) (fun _ _ _ h => h) (Or.inl ⟨by rfl, ?_⟩) (by assumption) ?_
                  rotate_left 1
                  · ((intro w hSw; (try dsimp only at hSw); go_simp) <;> with_reducible rfl)
                  (try simp only [Act.put, List.setIfInBounds_toArray, List.set_cons_zero, List.set_cons_succ])
                  refine wpAnyH_take (i := 22) (oi := _) (v := ?_) rfl (by kernel_rfl) (by kernel_rfl) (by kernel_rfl) (fun _ _ _ h => h) (Or.inl ⟨by rfl, ?_⟩) (by assumption) ?_
                  rotate_left 1
                  · ((intro w hSw; (try dsimp only at hSw); go_simp) <;> with_reducible rfl)
                  (try simp only [Act.put, List.setIfInBounds_toArray, List.set_cons_zero, List.set_cons_succ])
                  refine wpAnyH_ready (rs := [23]) (by kernel_rfl) (by simp) ?_
                  refine AllReadyH.cons (o := _) rfl (fun K hK => ?_) ?_
                  · go_simp
                    refine hK.out _ _ ?_ (fun hNew => ?_)
                    · ((try dsimp only); first | exact ⟨c2, c7, c15, c16⟩ | exact ⟨s2.out _, s7.out _, s15.out _, s16.out _⟩)
                    clear hK K hHeld
                    have hHeld := hNew
                    clear hNew
                    (try simp only [Act.put, List.setIfInBounds_toArray, List.set_cons_zero, List.set_cons_succ])
                    refine wpAnyH_done (by kernel_rfl) ?_ _
                    refine NoPanic.normal ?_
                    go_wp2_with fail
                    go_roundw
                    case rel => exact ⟨t + 1, _, by go_num, by omega, by omega, HWd2, Lib.hid ((HM2.out (.int .u32 X)).same rfl rfl rfl rfl)⟩
                    case measure => simp [intOf]; omega
                  exact AllReadyH.nil
                exact AllReadyH.nil
              exact AllReadyH.nil
            · have HWe : Hid (Wd mW fW 64) := by
                have ht2 : t = 64 := by omega
                rw [← ht2]; exact HWd
              have hd64 : decide ((t : Int) < 64) = false := by simp; omega
              have HR := Lib.hid (rounds_any H tH W R (stF F S) S kf (sched mW) HO.out wr HM.out.rowH (fun j hj => by rw [stF, if_pos hj]) (fun j hj => by rw [HM.out.rowW.cell hj, HWe.out j hj]) (fun j hj => HM.out.rowR.cell hj))
              clear HWd HWe ht
              obtain ⟨A2, hA2⟩ : ∃ A2, A2 = (if c = 64 then (some ⟨g, o + 64 * q, none⟩ : Option Addr) else some ⟨g, o + 64 * q + 64, none⟩) := ⟨_, rfl⟩
              have HA2 : Hid (64 ≤ m - 64 → A2 = some ⟨g, o + 64 * (q + 1), none⟩) := Lib.hid (fun h => by
                rw [hA2, if_neg (by omega), show o + 64 * (q + 1) = o + 64 * q + 64 from by omega])
              have hcut := hA2.symm
              clear hA2
              go_wp2_with fail
              refine HR.out.mono ?_
              rintro e w' ⟨rfl, hr, hg⟩
              have HM3 := Lib.hid (HM.out.mixed hr hg)
              rw [HMW.out] at HM3
              have hbl := blocks_cut s l n q (by omega) S
              have HS3 : Hid (blocks kf ((m - 64) / 64) (block kf S ((l.drop (64 * q)).take 64)) (l.drop (64 * (q + 1))) = blocks kf (n / 64) s l) := Lib.hid (by
                rw [show m - 64 = n - 64 * (q + 1) from by omega, ← hbl, show n - 64 * q = m from by omega]
                exact HS.out)
              have HO3 : Hid (block kf S ((l.drop (64 * q)).take 64)).ok := Lib.hid (mixin_ok _ _)
              clear hr hg HM hbl HS HO HMW hd64 hlt HR
              go_wp2_with fail
              exact ⟨⟨A2, m - 64, c - 64, q + 1, _, fW, rfl, by omega, by omega, HA2, HS3, HO3, HM3⟩, by show m - 64 < m; omega⟩
    · have hd : decide ((64 : Int) ≤ (m : Int)) = false := by simp; omega
      have hm0 : m / 64 = 0 := by omega
      have hS := HS.out
      rw [hm0] at hS
      have HS2 := Lib.hid hS
      clear hS HS hm0
      go_wp2_with fail
      go_end0
      refine ⟨rfl, ?_, HM.out.gr⟩
      rw [← HS2.out]
      exact HM.out.rowH
end Go.Proofs.Ytmcmapgllaopmaa.Sm
end
