/- The document's Parse. -/
import Derived.Test.YtgmcdkkjemjneaaSmParse
import Derived.StillTailTactics
namespace Go.Proofs.Ytgmcdkkjemjneaa.Sm
open Go.RowKit
set_option linter.unusedVariables false

set_option maxRecDepth 100000 in
theorem or0 (d : Int) (h0 : 0 ≤ d) (h1 : d ≤ 255) : bits .or .u8 0 d = d := by
  have h : ∀ n : _root_.Fin 256, bits .or .u8 0 (n.val : Int) = (n.val : Int) := by decide
  have := h ⟨d.toNat, by omega⟩
  simpa [show ((d.toNat : Nat) : Int) = d by omega] using this

/-- the bytes that are laid so far, half by half -/
def qf (s : ByteArray) (k : Nat) : Nat → Value := fun j => if 2 * j + 1 < k then .int .u8 (pv s j) else if 2 * j < k then .int .u8 (dgV (xs s (2 * j))) else .int .u8 0
theorem qf_even (s : ByteArray) (q j : Nat) : (if j = q then Value.int .u8 (dgV (xs s (2 * q))) else qf s (2 * q) j) = qf s (2 * q + 1) j := by
  unfold qf
  by_cases e : j = q
  · subst e; rw [if_pos rfl, if_neg (by omega), if_pos (by omega)]
  · rw [if_neg e]
    by_cases e2 : j < q
    · rw [if_pos (by omega), if_pos (by omega)]
    · rw [if_neg (by omega), if_neg (by omega), if_neg (by omega), if_neg (by omega)]
theorem qf_odd (s : ByteArray) (q j : Nat) : (if j = q then Value.int .u8 (pv s q) else qf s (2 * q + 1) j) = qf s (2 * q + 2) j := by
  unfold qf
  by_cases e : j = q
  · subst e; rw [if_pos rfl, if_pos (by omega)]
  · rw [if_neg e]
    by_cases e2 : j < q
    · rw [if_pos (by omega), if_pos (by omega)]
    · rw [if_neg (by omega), if_neg (by omega), if_neg (by omega), if_neg (by omega)]

set_option maxRecDepth 100000 in
set_option maxHeartbeats 4000000 in
theorem rparse_any (s : ByteArray) (w : World) (hss : s.size ≤ 140737488351232) :
    Calls Try.prog 16 #[.string s] w fun e w' => e = .returned (.tuple #[.agg (bv (pId s)).toArray, .int .i64 (pErr s)]) ∧ Below w.heap.size w w' := by
  have hz1 := zero32
  generalize hZ1 : (bv (List.replicate 32 0)).toArray = Z1 at hz1
  have HZ1 := Lib.hid hZ1
  clear hZ1
  go_enter Try.func16, Try.ntmps16
  go_upto_region 1 with (fail)
  have HO1 : Hid ((w.alloc (.cells Z1 27)).rowIs w.heap.size 27 32 (fun _ => .int .u8 0)) := Lib.hid (by rw [← HZ1.out]; exact row_zeros w 32 _)
  have hs1 := al_lt w (.cells Z1 27)
  have HB1 := Lib.hid ((Below.refl w.heap.size w).alloc (Nat.le_refl _) (.cells Z1 27))
  generalize w.alloc (.cells Z1 27) = w1 at *
  generalize hO : w.heap.size = O at *
  have HOw := Lib.hid hO
  clear hO
  go_upto_region 2 with (fail)
  have HO2 := Lib.hid (World.rowIs.alloc HO1.out (.cells Z1 27))
  have HB2 := Lib.hid (HB1.out.alloc (Nat.le_of_lt hs1) (.cells Z1 27))
  have HI2 : Hid ((w1.alloc (.cells Z1 27)).rowIs w1.heap.size 27 32 (qf s 0)) := Lib.hid (by
    rw [← HZ1.out]
    exact (row_zeros w1 32 _).congr (fun j hj => by rw [qf, if_neg (by omega), if_neg (by omega)]))
  clear HO1 HB1
  generalize w1.alloc (.cells Z1 27) = w2 at *
  generalize hI : w1.heap.size = I at *
  clear hI
  by_cases h64 : s.size = 64
  · have hd : ((s.size : Int) != 64) = false := by simp [h64]
    have H64 := Lib.hid h64
    clear h64
    go_wp2_with fail
    go_loopw [5] (fun s5 wr => ∃ k : Nat, s5 = .int .i64 k ∧ k ≤ 64 ∧ Hid (∀ j, j < k → dgB (xs s j) = true) ∧ Hid (wr.rowIs I 27 32 (qf s k)) ∧ Hid (wr.rowIs O 27 32 (fun _ => .int .u8 0)) ∧ Hid (Below O w wr)) (fun s5 _ => 64 - (intOf s5).toNat)
    case atStart => exact ⟨0, rfl, Nat.zero_le _, Lib.hid (fun j hj => absurd hj (by omega)), HI2, HO2, HB2⟩
    case round =>
      clear HI2 HO2 HB2
      obtain ⟨k, rfl, hk, HG, HI, HO, HB⟩ := hrel
      by_cases hlt : k < 64
      · have hsk : k < s.size := by have := H64.out; omega
        have lk : (k : Int) < (s.size : Int) := by omega
        have k0 : (0 : Int) ≤ (k : Int) := by omega
        have k1 : (k : Int) < 64 := by omega
        have e0 := xs_at s k hsk
        have hrd := fun w => rdigit_any (xs s k) w (xs_range s k).1 (xs_range s k).2
        cases hb0 : dgB (xs s k)
        · have hr : dgR (xs s k) = -1 := by unfold dgR; rw [hb0]; rfl
          rw [hr] at hrd
          have HD := Lib.hid hrd
          clear hrd hr
          go_wp2_with fail
          refine (HD.out _).mono ?_
          rintro e w' ⟨rfl, rfl⟩
          have HNo : Hid (¬ pOk s) := Lib.hid (fun h => by
              have h2 := h.2 k (by omega)
              rw [hb0] at h2
              cases h2)
          go_wp2_with (first
            | (refine wpList_build rfl 27 _ rfl (by kernel_rfl) ?_
               generalize hG : Option.getD (Program.built _ _ _) _ = KA
               have HKe : Hid (KA = (bv (List.replicate 32 0)).toArray) := Lib.hid (hG.symm.trans (show _ = (bv (List.replicate 32 0)).toArray from by kernel_rfl))
               clear hG
               have HFn := Lib.hid (Fin.mk' HKe.out (by simp) HO.out (fun j _ => ⟨0, rfl⟩) HB.out))
            | (refine wpList_store_mid rfl _ _ _ rfl O 0 KA rfl rfl HFn.out.there HFn.out.size HFn.out.one ?_))
          refine bodyPost_ret (results_cell2 rfl _ _ O _ _ _ _ rfl HFn.out.stored Try.underlying27 rfl HFn.out.size (.int .i64 1) rfl) rfl ?_
          refine ⟨by rw [HKe.out, pId_no HNo.out, pErr_no HNo.out], ?_⟩
          rw [HOw.out]
          exact HFn.out.bel
        · have hr : dgR (xs s k) = dgV (xs s k) := by unfold dgR; rw [hb0]; rfl
          rw [hr] at hrd
          have HD := Lib.hid hrd
          have hv := dgV_range (xs s k)
          have hv0 := hv.1
          have hv1 := hv.2
          have hor := or0 (dgV (xs s k)) hv.1 (by omega)
          have HG2 : Hid (∀ j, j < k + 1 → dgB (xs s j) = true) := Lib.hid (fun j hj => by
            by_cases e : j = k
            · rw [e]; exact hb0
            · exact HG.out j (by omega))
          clear hrd hr hv hb0 HG
          obtain ⟨q, hq⟩ : ∃ q, q = k / 2 := ⟨_, rfl⟩
          have hq2 : (k : Int) / 2 = (q : Int) := by omega
          have q0 : (0 : Int) ≤ (q : Int) := by omega
          have q1 : (q : Int) < 32 := by omega
          have wq : IntKind.i64.wrap (q : Int) = (q : Int) := IntWalk.i64_in _ (by omega)
          have hf : wr.frozen? ⟨I, q, none⟩ = false := HI.out.frozen _
          have hOI : O ≠ I := by omega
          have hOI2 : O ≤ I := by omega
          rcases (show k = 2 * q ∨ k = 2 * q + 1 by omega) with he | he
          · have hc : wr.cell? ⟨I, q, none⟩ = some (.int .u8 0) := by rw [HI.out.cell (by omega), qf, if_neg (by omega), if_neg (by omega)]
            have HI2 : Hid ((wr.setCell ⟨I, q, none⟩ (.int .u8 (dgV (xs s k)))).rowIs I 27 32 (qf s (k + 1))) := Lib.hid ((HI.out.set q _).congr (fun j _ => by
              rw [he]
              exact qf_even s q j))
            have HO2 := Lib.hid (HO.out.setOther (a := ⟨I, q, none⟩) (by show O ≠ I; exact hOI) (.int .u8 (dgV (xs s k))))
            have HB2 := Lib.hid (HB.out.setCell (p := ⟨I, q, none⟩) (by show O ≤ I; exact hOI2) (.int .u8 (dgV (xs s k))))
            clear HI HO HB hq he
            go_wp2_with fail
            refine (HD.out _).mono ?_
            rintro e w' ⟨rfl, rfl⟩
            go_wp2_with fail
            refine wp_region_still_tail 14 (by kernel_rfl) (by kernel_rfl) ?_
            simp only [List.take_succ_cons, List.take_zero, List.drop_succ_cons, List.drop_zero]
            repeat still_step
            still_call ((HD.out _).mono (fun e w' ⟨h1, h2⟩ => ⟨h1, h2.symm⟩))
            repeat still_step
            refine wpStill_nil ?_
            change wpList _ _ _ _ _ wr.drew
            have hc' : wr.drew.cell? ⟨I, q, none⟩ = some (.int .u8 0) := hc
            have hf' : wr.drew.frozen? ⟨I, q, none⟩ = false := hf
            go_wp2_with fail
            go_roundw
            case rel => exact ⟨k + 1, by go_num, by omega, HG2, Lib.hid (World.rowIs.drew HI2.out), Lib.hid (World.rowIs.drew HO2.out), Lib.hid (below_drewN HB2.out 1)⟩
            case measure => simp [intOf]; omega
          · have hc : wr.cell? ⟨I, q, none⟩ = some (.int .u8 (dgV (xs s (2 * q)))) := by rw [HI.out.cell (by omega), qf, if_neg (by omega), if_pos (by omega)]
            have hw0 := (dgV_range (xs s (2 * q))).1
            have hw1 := (dgV_range (xs s (2 * q))).2
            have HI2 : Hid ((wr.setCell ⟨I, q, none⟩ (.int .u8 (bits .or .u8 (dgV (xs s (2 * q)) * 16) (dgV (xs s k))))).rowIs I 27 32 (qf s (k + 1))) := Lib.hid ((HI.out.set q _).congr (fun j _ => by
              rw [he]
              exact qf_odd s q j))
            have HO2 := Lib.hid (HO.out.setOther (a := ⟨I, q, none⟩) (by show O ≠ I; exact hOI) (.int .u8 (bits .or .u8 (dgV (xs s (2 * q)) * 16) (dgV (xs s k)))))
            have HB2 := Lib.hid (HB.out.setCell (p := ⟨I, q, none⟩) (by show O ≤ I; exact hOI2) (.int .u8 (bits .or .u8 (dgV (xs s (2 * q)) * 16) (dgV (xs s k)))))
            clear HI HO HB hq he hor
            generalize dgV (xs s (2 * q)) = Y at *
            go_wp2_with fail
            refine (HD.out _).mono ?_
            rintro e w' ⟨rfl, rfl⟩
            go_wp2_with fail
            refine wp_region_still_tail 14 (by kernel_rfl) (by kernel_rfl) ?_
            simp only [List.take_succ_cons, List.take_zero, List.drop_succ_cons, List.drop_zero]
            repeat still_step
            still_call ((HD.out _).mono (fun e w' ⟨h1, h2⟩ => ⟨h1, h2.symm⟩))
            repeat still_step
            refine wpStill_nil ?_
            change wpList _ _ _ _ _ wr.drew
            have hc' : wr.drew.cell? ⟨I, q, none⟩ = some (.int .u8 Y) := hc
            have hf' : wr.drew.frozen? ⟨I, q, none⟩ = false := hf
            go_wp2_with fail
            go_roundw
            case rel => exact ⟨k + 1, by go_num, by omega, HG2, Lib.hid (World.rowIs.drew HI2.out), Lib.hid (World.rowIs.drew HO2.out), Lib.hid (below_drewN HB2.out 1)⟩
            case measure => simp [intOf]; omega
      · have ek : k = 64 := by omega
        have hd : decide ((k : Int) < 64) = false := by simp; omega
        have HYes : Hid (pOk s) := Lib.hid ⟨H64.out, fun j hj => HG.out j (by omega)⟩
        have HRgI : Hid (wr.rangeAt I 0 (bv (pvs s))) := Lib.hid (fun j v hj => by
          have hl := (List.getElem?_eq_some_iff.1 hj).1
          rw [bv_len, show (pvs s).length = 32 by simp [pvs]] at hl
          rw [Nat.zero_add, HI.out.cell hl, qf, if_pos (by omega), ← hj, ← pvs_at s j hl]
          simp [bv, pvs, hl])
        have hpl : (pvs s).length = 32 := by simp [pvs]
        have HSzL : Hid ((Try.prog.info? 27).map (·.size) = some (bv (pvs s)).length) := Lib.hid (by rw [bv_len, hpl]; kernel_rfl)
        have HFn := Lib.hid (Fin.mk' (D := (bv (pvs s)).toArray) rfl hpl HO.out (fun j _ => ⟨0, rfl⟩) HB.out)
        have HRes : Hid ((bv (pvs s)).toArray = (bv (pId s)).toArray) := Lib.hid (by rw [pId_yes HYes.out])
        clear HI HO HB HG hpl
        generalize bv (pvs s) = DL at *
        go_wp2_with (first
          | (refine wpList_load_mid rfl _ _ rfl I 0 rfl DL _ HRgI.out Try.underlying27 rfl HSzL.out ?_)
          | (refine wpList_store_mid rfl _ _ _ rfl O 0 DL.toArray rfl rfl HFn.out.there HFn.out.size HFn.out.one ?_))
        refine bodyPost_ret (results_cell2 rfl _ _ O _ _ _ _ rfl HFn.out.stored Try.underlying27 rfl HFn.out.size (.int .i64 0) rfl) rfl ?_
        refine ⟨by rw [HRes.out, pErr_yes HYes.out], ?_⟩
        rw [HOw.out]
        exact HFn.out.bel
  · have hd : ((s.size : Int) != 64) = true := by simp; omega
    have HNo : Hid (¬ pOk s) := Lib.hid (fun h => h64 h.1)
    have HRg0 : Hid (w2.rangeAt I 0 (bv (List.replicate 32 0))) := Lib.hid (fun j v hj => by
      have hl := (List.getElem?_eq_some_iff.1 hj).1
      rw [bv_len, List.length_replicate] at hl
      rw [Nat.zero_add, HI2.out.cell hl, qf, if_neg (by omega), if_neg (by omega), ← hj]
      exact (bv_zero 32 j hl).symm)
    have HSz0 : Hid ((Try.prog.info? 27).map (·.size) = some (bv (List.replicate 32 0)).length) := Lib.hid (by rw [bv_len, List.length_replicate]; kernel_rfl)
    have HFn := Lib.hid (Fin.mk' (D := (bv (List.replicate 32 0)).toArray) rfl (by simp) HO2.out (fun j _ => ⟨0, rfl⟩) HB2.out)
    have HRes : Hid ((bv (List.replicate 32 0)).toArray = (bv (pId s)).toArray) := Lib.hid (by rw [pId_no HNo.out])
    clear HI2 HO2 HB2 HZ1 hz1
    generalize bv (List.replicate 32 0) = DL at *
    go_wp2_with (first
      | (refine wpList_load_mid rfl _ _ rfl I 0 rfl DL _ HRg0.out Try.underlying27 rfl HSz0.out ?_)
      | (refine wpList_store_mid rfl _ _ _ rfl O 0 DL.toArray rfl rfl HFn.out.there HFn.out.size HFn.out.one ?_))
    refine bodyPost_ret (results_cell2 rfl _ _ O _ _ _ _ rfl HFn.out.stored Try.underlying27 rfl HFn.out.size (.int .i64 1) rfl) rfl ?_
    refine ⟨by rw [HRes.out, pErr_no HNo.out], ?_⟩
    rw [HOw.out]
    exact HFn.out.bel
end Go.Proofs.Ytgmcdkkjemjneaa.Sm
