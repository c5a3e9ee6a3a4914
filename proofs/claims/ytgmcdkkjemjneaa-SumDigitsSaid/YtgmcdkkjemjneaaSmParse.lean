/- Parse: the program's and the document's. -/
import Derived.Test.YtgmcdkkjemjneaaSmDigit
import Derived.Test.YtgmcdkkjemjneaaSmOf
import Derived.Deep.RegionHeld3
namespace Go.Proofs.Ytgmcdkkjemjneaa.Sm
open Go.RowKit
set_option linter.unusedVariables false

/-- two results, the first one in a block of its own -/
theorem results_cell2 {P : Program} {fn : Func} {p q : Tmp} {ty : TypeId} (h : fn.results = #[.cell p ty, .tmp q]) (tmps : Array Value) (w : World) (g : Nat) (t : TypeId) (cs : Array Value) (fr : Nat × Nat) (d : TypeDesc)
    (hp : tmps.getD p undef = .pointer (some ⟨g, 0, none⟩)) (hg : w.heap[g]? = some (.cells cs t fr))
    (hu : P.underlying ty = some d) (hd : (match d with | .struct _ | .array _ _ => true | _ => false) = true) (hi : (P.info? ty).map (·.size) = some cs.size) (v : Value) (hv : tmps.getD q undef = v) :
    (results fn tmps).run P w = .ok (.tuple #[.agg cs, v]) w := by
  have hp' : tmps[p]?.getD undef = .pointer (some ⟨g, 0, none⟩) := by simpa using hp
  have hv' : tmps[q]?.getD undef = v := by simpa using hv
  simp [results, h, hp', hv', asAddr, run_loadVar_row w g t ty cs fr d hg hu hd hi]

/-- a text's letter -/
def xs (s : ByteArray) (k : Nat) : Int := ((s.data.toList.getD k 0).toNat : Int)
theorem xs_at (s : ByteArray) (k : Nat) (h : k < s.size) : ((s[k].toNat : Nat) : Int) = xs s k := by
  have h2 : k < s.data.size := h
  have : s[k] = s.data[k] := rfl
  simp [xs, List.getD, this, Array.getElem?_eq_getElem h2]
theorem xs_range (s : ByteArray) (k : Nat) : 0 ≤ xs s k ∧ xs s k ≤ 255 := by
  unfold xs
  have := (s.data.toList.getD k 0).toNat_lt
  omega
/-- an Id's byte out of two letters -/
def pv (s : ByteArray) (j : Nat) : Int := bits .or .u8 (dgV (xs s (2 * j)) * 16) (dgV (xs s (2 * j + 1)))
def pvs (s : ByteArray) : List Int := (List.range 32).map (pv s)
theorem pvs_at (s : ByteArray) (j : Nat) (h : j < 32) : (pvs s).getD j 0 = pv s j := by simp [pvs, List.getD, h]
def pOk (s : ByteArray) : Prop := s.size = 64 ∧ ∀ j, j < 64 → dgB (xs s j) = true
open Classical in
noncomputable def pId (s : ByteArray) : List Int := if pOk s then pvs s else List.replicate 32 0
open Classical in
noncomputable def pErr (s : ByteArray) : Int := if pOk s then 0 else 1
theorem pId_yes {s : ByteArray} (h : pOk s) : pId s = pvs s := by unfold pId; rw [if_pos h]
theorem pId_no {s : ByteArray} (h : ¬ pOk s) : pId s = List.replicate 32 0 := by unfold pId; rw [if_neg h]
theorem pErr_yes {s : ByteArray} (h : pOk s) : pErr s = 0 := by unfold pErr; rw [if_pos h]
theorem pErr_no {s : ByteArray} (h : ¬ pOk s) : pErr s = 1 := by unfold pErr; rw [if_neg h]
theorem pId_len (s : ByteArray) : (pId s).length = 32 := by unfold pId; split <;> simp [pvs]

/-- the bytes that are laid so far -/
def pf (s : ByteArray) (k : Nat) : Nat → Value := fun j => if j < k then .int .u8 (pv s j) else .int .u8 0
theorem pf_step (s : ByteArray) (k j : Nat) : (if j = k then Value.int .u8 (pv s k) else pf s k j) = pf s (k + 1) j := by
  unfold pf
  by_cases e : j = k
  · subst e; rw [if_pos rfl, if_pos (by omega)]
  · rw [if_neg e]
    by_cases e2 : j < k
    · rw [if_pos e2, if_pos (by omega)]
    · rw [if_neg e2, if_neg (by omega)]
theorem bv_len (l : List Int) : (bv l).length = l.length := by rw [bv, List.length_map]

/-- the result's block is filled: what the end of both functions wants -/
structure Fin (w wr : World) (O : Nat) (D : Array Value) : Prop where
  there : wr.there O 0 D.size
  stored : (wr.setCells O 0 D.toList).heap[O]? = some (.cells D 27 (0, 0))
  bel : Below O w (wr.setCells O 0 D.toList)
  size : (Try.prog.info? 27).map (·.size) = some D.size
  one : D.all (·.oneCell') = true
theorem Fin.mk' {w wr : World} {O : Nat} {l : List Int} {F : Nat → Value} {D : Array Value} (hD : D = (bv l).toArray) (hl : l.length = 32) (hr : wr.rowIs O 27 32 F) (hF : ∀ j, j < 32 → ∃ v, F j = .int .u8 v) (hb : Below O w wr) : Fin w wr O D := by
  subst hD
  have hbl : (bv l).length = 32 := by rw [bv_len, hl]
  refine ⟨fun j hj => ?_, row_stored hr (bv l) hbl, below_setCells O (Nat.le_refl _) (bv l) 0 wr hb, by rw [List.size_toArray, hbl]; kernel_rfl, all_oneCell_toArray (bv_one l)⟩
  rw [List.size_toArray, hbl] at hj
  rw [Nat.zero_add]
  obtain ⟨v, hv⟩ := hF j hj
  exact ⟨by rw [hr.cell hj]; rfl, hr.frozen _⟩

set_option maxRecDepth 100000 in
set_option maxHeartbeats 4000000 in
theorem parse_any (s : ByteArray) (w : World) (hss : s.size ≤ 140737488351232) :
    Calls Try.prog 15 #[.string s] w fun e w' => e = .returned (.tuple #[.agg (bv (pId s)).toArray, .int .i64 (pErr s)]) ∧ Below w.heap.size w w' := by
  have hz1 := zero32
  generalize hZ1 : (bv (List.replicate 32 0)).toArray = Z1 at hz1
  have HZ1 := Lib.hid hZ1
  clear hZ1
  go_enter Try.func15, Try.ntmps15
  go_upto_region 1 with (fail)
  have HO1 : Hid ((w.alloc (.cells Z1 27)).rowIs w.heap.size 27 32 (fun _ => .int .u8 0)) := Lib.hid (by rw [← HZ1.out]; exact row_zeros w 32 _)
  have hs1 := al_lt w (.cells Z1 27)
  have HB1 := Lib.hid ((Below.refl w.heap.size w).alloc (Nat.le_refl _) (.cells Z1 27))
  generalize w.alloc (.cells Z1 27) = w1 at *
  generalize hO : w.heap.size = O at *
  have HOw := Lib.hid hO
  clear hO
  go_upto_region 2 with (fail)
  have HO2 := Lib.hid (World.rowIs.alloc HO1.out (.cells Z1 27))
  have HB2 := Lib.hid (HB1.out.alloc (Nat.le_of_lt hs1) (.cells Z1 27))
  have HI2 : Hid ((w1.alloc (.cells Z1 27)).rowIs w1.heap.size 27 32 (pf s 0)) := Lib.hid (by
    rw [← HZ1.out]
    exact (row_zeros w1 32 _).congr (fun j hj => by rw [pf, if_neg (by omega)]))
  clear HO1 HB1
  generalize w1.alloc (.cells Z1 27) = w2 at *
  generalize hI : w1.heap.size = I at *
  clear hI
  by_cases h64 : s.size = 64
  · have hd : ((s.size : Int) != 64) = false := by simp [h64]
    have H64 := Lib.hid h64
    clear h64
    go_wp2_with fail
    go_loopw [14] (fun s14 wr => ∃ k : Nat, s14 = .int .i64 k ∧ k ≤ 32 ∧ Hid (∀ j, j < 2 * k → dgB (xs s j) = true) ∧ Hid (wr.rowIs I 27 32 (pf s k)) ∧ Hid (wr.rowIs O 27 32 (fun _ => .int .u8 0)) ∧ Hid (Below O w wr)) (fun s14 _ => 32 - (intOf s14).toNat)
    case atStart => exact ⟨0, rfl, Nat.zero_le _, Lib.hid (fun j hj => absurd hj (by omega)), HI2, HO2, HB2⟩
    case round =>
      clear HI2 HO2 HB2
      obtain ⟨k, rfl, hk, HG, HI, HO, HB⟩ := hrel
      by_cases hlt : k < 32
      · obtain ⟨p0, hp0⟩ : ∃ p, p = 2 * k := ⟨_, rfl⟩
        obtain ⟨p1, hp1⟩ : ∃ p, p = p0 + 1 := ⟨_, rfl⟩
        have hs0 : p0 < s.size := by have := H64.out; omega
        have hs1 : p1 < s.size := by have := H64.out; omega
        have i0 : 2 * (k : Int) = (p0 : Int) := by omega
        have i1 : (p0 : Int) + 1 = (p1 : Int) := by omega
        have z0 : (0 : Int) ≤ (p0 : Int) := by omega
        have z1 : (0 : Int) ≤ (p1 : Int) := by omega
        have l0 : (p0 : Int) < (s.size : Int) := by omega
        have l1 : (p1 : Int) < (s.size : Int) := by omega
        have k0 : (0 : Int) ≤ (k : Int) := by omega
        have k1 : (k : Int) < 32 := by omega
        have e0 := xs_at s p0 hs0
        have e1 := xs_at s p1 hs1
        have HD0 := Lib.hid (fun w => digit_any (xs s p0) w (xs_range s p0).1 (xs_range s p0).2)
        have HD1 := Lib.hid (fun w => digit_any (xs s p1) w (xs_range s p1).1 (xs_range s p1).2)
        have HP0 := Lib.hid hp0
        have HP1 := Lib.hid hp1
        have hc : wr.cell? ⟨I, k, none⟩ = some (.int .u8 0) := by rw [HI.out.cell hlt, pf, if_neg (by omega)]
        have hf : wr.frozen? ⟨I, k, none⟩ = false := HI.out.frozen _
        have hv0 := (dgV_range (xs s p0)).1
        have hv1 := (dgV_range (xs s p0)).2
        have hv2 := (dgV_range (xs s p1)).1
        have hv3 := (dgV_range (xs s p1)).2
        clear hp0 hp1
        go_wp2_with fail
        refine (HD0.out _).mono ?_
        rintro e w' ⟨rfl, rfl⟩
        go_wp2_with fail
        refine (HD1.out _).mono ?_
        rintro e w' ⟨rfl, rfl⟩
        cases hb0 : dgB (xs s p0)
        · cases hb1 : dgB (xs s p1)
          · have HNo : Hid (¬ pOk s) := Lib.hid (fun h => by
                have h2 := h.2 p0 (by omega)
                rw [hb0] at h2
                cases h2)
            go_wp2_with (first
              | (refine wpList_build rfl 27 _ rfl (by kernel_rfl) ?_
                 generalize hG : Option.getD (Program.built _ _ _) _ = KA
                 have HKe : Hid (KA = (bv (List.replicate 32 0)).toArray) := Lib.hid (hG.symm.trans (show _ = (bv (List.replicate 32 0)).toArray from by kernel_rfl))
                 clear hG
                 have HFn := Lib.hid (Fin.mk' HKe.out (by simp) HO.out (fun j _ => ⟨0, rfl⟩) HB.out))
              | (refine wpList_store_mid rfl _ _ _ rfl O 0 KA rfl rfl HFn.out.there HFn.out.size HFn.out.one ?_))
            refine bodyPost_ret (results_cell2 rfl _ _ O _ _ _ _ rfl HFn.out.stored Try.underlying27 rfl HFn.out.size (.int .i64 1) rfl) rfl ?_
            refine ⟨by rw [HKe.out, pId_no HNo.out, pErr_no HNo.out], ?_⟩
            rw [HOw.out]
            exact HFn.out.bel
          · have HNo : Hid (¬ pOk s) := Lib.hid (fun h => by
                have h2 := h.2 p0 (by omega)
                rw [hb0] at h2
                cases h2)
            go_wp2_with (first
              | (refine wpList_build rfl 27 _ rfl (by kernel_rfl) ?_
                 generalize hG : Option.getD (Program.built _ _ _) _ = KA
                 have HKe : Hid (KA = (bv (List.replicate 32 0)).toArray) := Lib.hid (hG.symm.trans (show _ = (bv (List.replicate 32 0)).toArray from by kernel_rfl))
                 clear hG
                 have HFn := Lib.hid (Fin.mk' HKe.out (by simp) HO.out (fun j _ => ⟨0, rfl⟩) HB.out))
              | (refine wpList_store_mid rfl _ _ _ rfl O 0 KA rfl rfl HFn.out.there HFn.out.size HFn.out.one ?_))
            refine bodyPost_ret (results_cell2 rfl _ _ O _ _ _ _ rfl HFn.out.stored Try.underlying27 rfl HFn.out.size (.int .i64 1) rfl) rfl ?_
            refine ⟨by rw [HKe.out, pId_no HNo.out, pErr_no HNo.out], ?_⟩
            rw [HOw.out]
            exact HFn.out.bel
        · cases hb1 : dgB (xs s p1)
          · have HNo : Hid (¬ pOk s) := Lib.hid (fun h => by
                have h2 := h.2 p1 (by omega)
                rw [hb1] at h2
                cases h2)
            go_wp2_with (first
              | (refine wpList_build rfl 27 _ rfl (by kernel_rfl) ?_
                 generalize hG : Option.getD (Program.built _ _ _) _ = KA
                 have HKe : Hid (KA = (bv (List.replicate 32 0)).toArray) := Lib.hid (hG.symm.trans (show _ = (bv (List.replicate 32 0)).toArray from by kernel_rfl))
                 clear hG
                 have HFn := Lib.hid (Fin.mk' HKe.out (by simp) HO.out (fun j _ => ⟨0, rfl⟩) HB.out))
              | (refine wpList_store_mid rfl _ _ _ rfl O 0 KA rfl rfl HFn.out.there HFn.out.size HFn.out.one ?_))
            refine bodyPost_ret (results_cell2 rfl _ _ O _ _ _ _ rfl HFn.out.stored Try.underlying27 rfl HFn.out.size (.int .i64 1) rfl) rfl ?_
            refine ⟨by rw [HKe.out, pId_no HNo.out, pErr_no HNo.out], ?_⟩
            rw [HOw.out]
            exact HFn.out.bel
          · have HG2 : Hid (∀ j, j < 2 * (k + 1) → dgB (xs s j) = true) := Lib.hid (fun j hj => by
              rcases (show j < 2 * k ∨ j = p0 ∨ j = p1 by have := HP0.out; have := HP1.out; omega) with h | rfl | rfl
              · exact HG.out j h
              · exact hb0
              · exact hb1)
            have HI2 : Hid ((wr.setCell ⟨I, k, none⟩ (.int .u8 (bits .or .u8 (dgV (xs s p0) * 16) (dgV (xs s p1))))).rowIs I 27 32 (pf s (k + 1))) := Lib.hid ((HI.out.set k _).congr (fun j _ => by
              rw [HP1.out, HP0.out]
              exact pf_step s k j))
            have HO2 : Hid ((wr.setCell ⟨I, k, none⟩ (.int .u8 (bits .or .u8 (dgV (xs s p0) * 16) (dgV (xs s p1))))).rowIs O 27 32 (fun _ => .int .u8 0)) := Lib.hid (HO.out.setOther (by show O ≠ I; omega) _)
            have HB2 : Hid (Below O w (wr.setCell ⟨I, k, none⟩ (.int .u8 (bits .or .u8 (dgV (xs s p0) * 16) (dgV (xs s p1)))))) := Lib.hid (HB.out.setCell (by show O ≤ I; omega) _)
            clear HG HI HO HB HP0 HP1
            go_wp2_with fail
            go_roundw
            case rel => exact ⟨k + 1, by go_num, by omega, HG2, HI2, HO2, HB2⟩
            case measure => simp [intOf]; omega
      · have ek : k = 32 := by omega
        have hd : decide ((k : Int) < 32) = false := by simp; omega
        have HYes : Hid (pOk s) := Lib.hid ⟨H64.out, fun j hj => HG.out j (by omega)⟩
        have HRgI : Hid (wr.rangeAt I 0 (bv (pvs s))) := Lib.hid (fun j v hj => by
          have hl := (List.getElem?_eq_some_iff.1 hj).1
          rw [bv_len, show (pvs s).length = 32 by simp [pvs]] at hl
          rw [Nat.zero_add, HI.out.cell hl, pf, if_pos (by omega), ← hj, ← pvs_at s j hl]
          simp [bv, pvs, hl])
        have hpl : (pvs s).length = 32 := by simp [pvs]
        have HSzL : Hid ((Try.prog.info? 27).map (·.size) = some (bv (pvs s)).length) := Lib.hid (by rw [bv_len, hpl]; kernel_rfl)
        have HFn := Lib.hid (Fin.mk' (D := (bv (pvs s)).toArray) rfl hpl HO.out (fun j _ => ⟨0, rfl⟩) HB.out)
        have HRes : Hid ((bv (pvs s)).toArray = (bv (pId s)).toArray) := Lib.hid (by rw [pId_yes HYes.out])
        clear HI HO HB HG hpl
        generalize bv (pvs s) = DL at *
        go_wp2_with (first
          | (refine wpList_load_mid rfl _ _ rfl I 0 rfl DL _ HRgI.out Try.underlying27 rfl HSzL.out ?_)
          | (refine wpList_store_mid rfl _ _ _ rfl O 0 DL.toArray rfl rfl HFn.out.there HFn.out.size HFn.out.one ?_))
        refine bodyPost_ret (results_cell2 rfl _ _ O _ _ _ _ rfl HFn.out.stored Try.underlying27 rfl HFn.out.size (.int .i64 0) rfl) rfl ?_
        refine ⟨by rw [HRes.out, pErr_yes HYes.out], ?_⟩
        rw [HOw.out]
        exact HFn.out.bel
  · have hd : ((s.size : Int) != 64) = true := by simp; omega
    have HNo : Hid (¬ pOk s) := Lib.hid (fun h => h64 h.1)
    go_wp2_with (first
      | (refine wpList_build rfl 27 _ rfl (by kernel_rfl) ?_
         generalize hG : Option.getD (Program.built _ _ _) _ = KA
         have HKe : Hid (KA = (bv (List.replicate 32 0)).toArray) := Lib.hid (hG.symm.trans (show _ = (bv (List.replicate 32 0)).toArray from by kernel_rfl))
         clear hG
         have HFn := Lib.hid (Fin.mk' HKe.out (by simp) HO2.out (fun j _ => ⟨0, rfl⟩) HB2.out))
      | (refine wpList_store_mid rfl _ _ _ rfl O 0 KA rfl rfl HFn.out.there HFn.out.size HFn.out.one ?_))
    refine bodyPost_ret (results_cell2 rfl _ _ O _ _ _ _ rfl HFn.out.stored Try.underlying27 rfl HFn.out.size (.int .i64 1) rfl) rfl ?_
    refine ⟨by rw [HKe.out, pId_no HNo.out, pErr_no HNo.out], ?_⟩
    rw [HOw.out]
    exact HFn.out.bel
end Go.Proofs.Ytgmcdkkjemjneaa.Sm
