/- SumDigits: whatever the input, the law returns true, and each argument reads as it did before. No condition. -/
import Derived.Test.YtgmcdkkjemjneaaRows
import Derived.WalkKit
import Derived.ProofKit
import Derived.OpenShut
import Derived.ShutString
import Derived.SizedLaws
import Derived.Below
import Derived.Deep.QuietTactic
import Derived.BigQuiet
import Derived.RegionTactic
import Derived.BigRegion
import Derived.Outline
import Derived.Deep.RegionLaw
import Derived.Deep.RegionWith
import Derived.Deep.RegionHeld3
import Derived.Deep.DeepCutAuto
import Derived.Deep.CutBlock
import Derived.Deep.LoopGhost
import Derived.Lib.Hide
import Derived.WalkSpells
import Derived.WalkLawsBesides
import Derived.Test.YtgmcdkkjemjneaaFrIds
import Derived.Test.YtgmcdkkjemjneaaSmBack
import Derived.Test.YtgmcdkkjemjneaaSmKnown
namespace Go.Proofs.Ytgmcdkkjemjneaa.sumDigits
open Go.ChangeShapes Go.WideShapes Go.ChangeAt Go.RowKit
open Go.ChangeMaps (open_string shut_string)
set_option linter.unusedVariables false

theorem own : ownKnob Try.prog.godebug = none := by kernel_rfl
theorem laidOut : laidOutB Try.prog = true := by kernel_rfl

/-- an Id in a block -/
structure Bx (W : World) (G : Nat) (D : List Value) : Prop where
  rg : W.rangeAt G 0 D
  lt : G < W.heap.size
theorem Bx.keep {W W' : World} {G : Nat} {D : List Value} (h : Bx W G D) (hb : Below W.heap.size W W') : Bx W' G D :=
  ⟨fun j v hj => by
    rw [hb.cell (p := ⟨G, 0 + j, none⟩) h.lt]
    exact h.rg j v hj, Nat.lt_of_lt_of_le h.lt hb.size⟩
theorem Bx.drew {W : World} {G : Nat} {D : List Value} (h : Bx W G D) : Bx W.drew G D := ⟨h.rg, h.lt⟩
theorem Bx.ofRow {W : World} {G : Nat} {t : TypeId} {l : List Int} (h : W.rowIs G t 32 (fun j => .int .u8 (l.getD j 0))) (hl : l.length = 32) : Bx W G (Sm.bv l) :=
  ⟨fun j v hj => by
    have hlt := (List.getElem?_eq_some_iff.1 hj).1
    rw [Sm.bv, List.length_map, hl] at hlt
    rw [Nat.zero_add, h.cell hlt, ← hj]
    simp [Sm.bv, hl, hlt], h.lt⟩
theorem Bx.laid (W : World) (Z : Array Value) (D : List Value) (hz : Z.size = 32) (hd : D.length = 32) (t : TypeId) : Bx ((W.alloc (.cells Z t)).setCells W.heap.size 0 D) W.heap.size D := by
  have h := Sm.row_new W Z t
  rw [hz] at h
  have hr := Sm.row_lay h 0 D
  refine ⟨fun j v hj => ?_, hr.lt⟩
  have hl := (List.getElem?_eq_some_iff.1 hj).1
  rw [hd] at hl
  rw [Nat.zero_add, hr.cell hl, Sm.layF, hd, if_pos (by omega), Nat.sub_zero, ← hj]
  simp [List.getD, hd, hl]
theorem laid_below (W : World) (Z : Array Value) (D : List Value) (t : TypeId) : Below W.heap.size W ((W.alloc (.cells Z t)).setCells W.heap.size 0 D) :=
  Sm.below_setCells _ (Nat.le_refl _) _ _ _ ((Below.refl _ _).alloc (Nat.le_refl _) _)
/-- what an Id's store wants -/
structure Sto (D : List Value) : Prop where
  len : D.length = 32
  size : (Try.prog.info? 27).map (·.size) = some D.length
  size2 : (Try.prog.info? 27).map (·.size) = some D.toArray.size
  one : D.toArray.all (·.oneCell') = true
theorem Sto.of (l : List Int) (hl : l.length = 32) : Sto (Sm.bv l) := by
  have hb : (Sm.bv l).length = 32 := by rw [Sm.bv, List.length_map, hl]
  exact ⟨hb, by rw [hb]; kernel_rfl, by rw [List.size_toArray, hb]; kernel_rfl, all_oneCell_toArray (Sm.bv_one l)⟩
structure Six (W : World) (GA GK G7 G9 G11 G14 : Nat) (DA DK DP DZ : List Value) : Prop where
  a : Bx W GA DA
  k : Bx W GK DK
  p : Bx W G7 DP
  q : Bx W G9 DP
  c : Bx W G11 DA
  z : Bx W G14 DZ
theorem Six.keep {W W' : World} {GA GK G7 G9 G11 G14 : Nat} {DA DK DP DZ : List Value} (h : Six W GA GK G7 G9 G11 G14 DA DK DP DZ) (hb : Below W.heap.size W W') : Six W' GA GK G7 G9 G11 G14 DA DK DP DZ :=
  ⟨h.a.keep hb, h.k.keep hb, h.p.keep hb, h.q.keep hb, h.c.keep hb, h.z.keep hb⟩

set_option maxRecDepth 100000 in
set_option maxHeartbeats 4000000 in
theorem walk (w : World) (a0 : List Int) (w0 : Fr.IsId a0) (a1 : List Int) (w1 : Fr.IsId a1) (a2 : ByteArray) (w2 : a2.size ≤ 140737488351232) :
    Calls Try.prog 6 #[.agg (a0.map (Value.int .u8)).toArray, .agg (a1.map (Value.int .u8)).toArray, .string a2] w fun e w' => e = .returned (.bool true) ∧ Below w.heap.size w w' := by
  obtain ⟨l0, r0⟩ := w0
  obtain ⟨l1, r1⟩ := w1
  have q0 : ∀ i, i < 32 → 0 ≤ a0.getD i 0 ∧ a0.getD i 0 ≤ 255 := fun i hi => r0 _ (by rw [List.getD_eq_getElem?_getD, List.getElem?_eq_getElem (by omega)]; exact List.getElem_mem _)
  have q1 : ∀ i, i < 32 → 0 ≤ a1.getD i 0 ∧ a1.getD i 0 ≤ 255 := fun i hi => r1 _ (by rw [List.getD_eq_getElem?_getD, List.getElem?_eq_getElem (by omega)]; exact List.getElem_mem _)
  obtain ⟨hx1, hx2, hx3⟩ := Sm.boxes w a0 a1 l0 l1
  have HI := Lib.hid (Bx.ofRow hx1 l0)
  have HKk := Lib.hid (Bx.ofRow hx2 l1)
  have HB := Lib.hid hx3
  have hsA := hx3.size
  clear hx1 hx2 hx3
  have hmapA : a0.map (Value.int .u8) = Sm.bv a0 := rfl
  have hmapK : a1.map (Value.int .u8) = Sm.bv a1 := rfl
  rw [hmapA, hmapK]
  clear hmapA hmapK
  have hz1 := Sm.zero32
  have HZs : Hid ((Sm.bv (List.replicate 32 0)).toArray.size = 32) := Lib.hid (by simp [Sm.bv])
  generalize hZ1 : (Sm.bv (List.replicate 32 0)).toArray = Z1 at hz1 HZs
  have CK := Lib.hid (fun W => Sm.known_any W)
  have CP := Lib.hid (fun W => Sm.parse_any a2 W w2)
  have CR := Lib.hid (fun W => Sm.rparse_any a2 W w2)
  have CH0 := Lib.hid (fun W => Sm.hex_any a0 l0 q0 W)
  have CH1 := Lib.hid (fun W => Sm.hex_any a1 l1 q1 W)
  have CG0 := Lib.hid (fun W => Sm.rhex_any a0 l0 q0 W)
  have CL := Lib.hid (fun W => Sm.less_any a0 a1 l0 l1 r0 r1 W)
  have CM := Lib.hid (fun W => Sm.rless_any a0 a1 l0 l1 W)
  have hT : (Sm.sb (Sm.hexL a0)).size = 64 := by rw [Sm.sb_size, Sm.hex_len]
  have CP2 : Hid (∀ W, Calls Try.prog 15 #[.string (Sm.sb (Sm.hexL a0))] W fun e w' => e = .returned (.tuple #[.agg (Sm.bv a0).toArray, .int .i64 0]) ∧ Below W.heap.size W w') := Lib.hid (fun W => by
    have h := Sm.parse_any (Sm.sb (Sm.hexL a0)) W (by rw [hT]; decide)
    rw [Sm.pId_yes (Sm.pOk_hex a0 q0), Sm.pErr_yes (Sm.pOk_hex a0 q0), Sm.pvs_hex a0 l0 q0] at h
    exact h)
  have CP3 : Hid (∀ W, Calls Try.prog 15 #[.string ((Sm.sb (Sm.hexL a0)).extract 0 63 ++ ⟨#[71]⟩)] W fun e w' => e = .returned (.tuple #[.agg (Sm.bv (List.replicate 32 0)).toArray, .int .i64 1]) ∧ Below W.heap.size W w') := Lib.hid (fun W => by
    have h := Sm.parse_any ((Sm.sb (Sm.hexL a0)).extract 0 63 ++ ⟨#[71]⟩) W (by rw [ByteArray.size_append, ByteArray.size_extract, hT]; decide)
    rw [Sm.pId_no (Sm.pOk_turned _ hT), Sm.pErr_no (Sm.pOk_turned _ hT)] at h
    exact h)
  have hadd := Sm.str_add ((Sm.sb (Sm.hexL a0)).extract 0 63) ⟨#[71]⟩ (by rw [ByteArray.size_extract, hT]; decide)
  have hls := Sm.less_hex a0 a1 l0 l1 r0 r1
  have hqP := fun W => Sm.ids_eq (Sm.pId a2) (Sm.pId a2) (Sm.pId_len a2) (Sm.pId_len a2) W
  have hqA := fun W => Sm.ids_eq a0 a0 l0 l0 W
  have hqZ : ∀ W, (Op.equalIn 10000 27 (.agg (Sm.bv (List.replicate 32 0)).toArray) (.agg Z1)).run Try.prog W = .ok true W := fun W => by
    rw [← hZ1]
    exact Sm.ids_eq (List.replicate 32 0) (List.replicate 32 0) (by simp) (by simp) W
  clear hZ1
  simp only [decide_true] at hqP hqA
  have SP := Lib.hid (Sto.of (Sm.pId a2) (Sm.pId_len a2))
  have SA := Lib.hid (Sto.of a0 l0)
  have SK := Lib.hid (Sto.of a1 l1)
  have SZ := Lib.hid (Sto.of (List.replicate 32 0) (by simp))
  generalize Sm.bv (List.replicate 32 0) = DZ at *
  generalize Sm.bv (Sm.pId a2) = DP at *
  generalize Sm.pErr a2 = EP at *
  generalize Sm.bv a0 = DA at *
  generalize Sm.bv a1 = DK at *
  generalize Sm.ltL a0 a1 = BL at *
  generalize Sm.sb (Sm.hexL a0) = TA at *
  generalize Sm.sb (Sm.hexL a1) = TK at *
  clear l0 r0 l1 r1 q0 q1
  go_enter Try.func6, Try.ntmps6
  go_upto_region 1 with (fail)
  generalize (w.alloc (.cells DA.toArray 27)).alloc (.cells DK.toArray 27) = wA at *
  generalize w.heap.size + 1 = GK at *
  generalize hGA : w.heap.size = GA at *
  have HGA := Lib.hid hGA
  clear hGA
  go_wp2_with (first | (refine wpList_load_mid rfl _ _ rfl GA 0 rfl DA _ HI.out.rg Try.underlying27 rfl SA.out.size ?_) | (refine wpList_load_mid rfl _ _ rfl GK 0 rfl DK _ HKk.out.rg Try.underlying27 rfl SK.out.size ?_))
  refine (CK.out _).mono ?_
  rintro e w11 ⟨rfl, hb1⟩
  have HI_ := Lib.hid (HI.out.keep hb1)
  have HKk_ := Lib.hid (HKk.out.keep hb1)
  have HBn := Lib.hid (HB.out.trans (hb1.mono hsA))
  clear HB hsA HI HKk
  have HI := HI_
  clear HI_
  have HKk := HKk_
  clear HKk_
  have HB := HBn
  clear HBn
  have hsA := Nat.le_trans (Nat.le_of_eq HGA.out.symm) HB.out.size
  clear hb1
  go_wp2_with (first | (refine wpList_load_mid rfl _ _ rfl GA 0 rfl DA _ HI.out.rg Try.underlying27 rfl SA.out.size ?_) | (refine wpList_load_mid rfl _ _ rfl GK 0 rfl DK _ HKk.out.rg Try.underlying27 rfl SK.out.size ?_))
  refine (CP.out _).mono ?_
  rintro e w12 ⟨rfl, hb2⟩
  have HI_ := Lib.hid (HI.out.keep hb2)
  have HKk_ := Lib.hid (HKk.out.keep hb2)
  have HBn := Lib.hid (HB.out.trans (hb2.mono hsA))
  clear HB hsA HI HKk
  have HI := HI_
  clear HI_
  have HKk := HKk_
  clear HKk_
  have HB := HBn
  clear HBn
  have hsA := Nat.le_trans (Nat.le_of_eq HGA.out.symm) HB.out.size
  clear hb2
  go_upto_region 4 with (first | (refine wpList_load_mid rfl _ _ rfl GA 0 rfl DA _ HI.out.rg Try.underlying27 rfl SA.out.size ?_) | (refine wpList_load_mid rfl _ _ rfl GK 0 rfl DK _ HKk.out.rg Try.underlying27 rfl SK.out.size ?_) | (refine wpList_store_mid rfl _ _ _ rfl w12.heap.size 0 DP.toArray rfl rfl (Sm.there_new w12 Z1 _ _ (by rw [List.size_toArray, SP.out.len, HZs.out]; exact Nat.le_refl _)) SP.out.size2 SP.out.one ?_))
  have hbS := laid_below w12 Z1 DP 27
  have H7 := Lib.hid (Bx.laid w12 Z1 DP HZs.out SP.out.len 27)
  have HI_ := Lib.hid (HI.out.keep hbS)
  have HKk_ := Lib.hid (HKk.out.keep hbS)
  have HBn := Lib.hid (HB.out.trans (hbS.mono hsA))
  clear HB hsA HI HKk
  have HI := HI_
  clear HI_
  have HKk := HKk_
  clear HKk_
  have HB := HBn
  clear HBn
  have hsA := Nat.le_trans (Nat.le_of_eq HGA.out.symm) HB.out.size
  change Code.wp _ _ _ _ ((w12.alloc (.cells Z1 27)).setCells w12.heap.size 0 DP)
  clear hbS
  generalize (w12.alloc (.cells Z1 27)).setCells w12.heap.size 0 DP = w13 at *
  generalize w12.heap.size = G7 at *
  go_wp2_with (first | (refine wpList_load_mid rfl _ _ rfl GA 0 rfl DA _ HI.out.rg Try.underlying27 rfl SA.out.size ?_) | (refine wpList_load_mid rfl _ _ rfl GK 0 rfl DK _ HKk.out.rg Try.underlying27 rfl SK.out.size ?_) | (refine wpList_load_mid rfl _ _ rfl G7 0 rfl DP _ H7.out.rg Try.underlying27 rfl SP.out.size ?_))
  refine (CR.out _).mono ?_
  rintro e w14 ⟨rfl, hb4⟩
  have HI_ := Lib.hid (HI.out.keep hb4)
  have HKk_ := Lib.hid (HKk.out.keep hb4)
  have H7_ := Lib.hid (H7.out.keep hb4)
  have HBn := Lib.hid (HB.out.trans (hb4.mono hsA))
  clear HB hsA HI HKk H7
  have HI := HI_
  clear HI_
  have HKk := HKk_
  clear HKk_
  have H7 := H7_
  clear H7_
  have HB := HBn
  clear HBn
  have hsA := Nat.le_trans (Nat.le_of_eq HGA.out.symm) HB.out.size
  clear hb4
  go_upto_region 5 with (first | (refine wpList_load_mid rfl _ _ rfl GA 0 rfl DA _ HI.out.rg Try.underlying27 rfl SA.out.size ?_) | (refine wpList_load_mid rfl _ _ rfl GK 0 rfl DK _ HKk.out.rg Try.underlying27 rfl SK.out.size ?_) | (refine wpList_load_mid rfl _ _ rfl G7 0 rfl DP _ H7.out.rg Try.underlying27 rfl SP.out.size ?_) | (refine wpList_store_mid rfl _ _ _ rfl w14.heap.size 0 DP.toArray rfl rfl (Sm.there_new w14 Z1 _ _ (by rw [List.size_toArray, SP.out.len, HZs.out]; exact Nat.le_refl _)) SP.out.size2 SP.out.one ?_))
  have hbS := laid_below w14 Z1 DP 27
  have H9 := Lib.hid (Bx.laid w14 Z1 DP HZs.out SP.out.len 27)
  have HI_ := Lib.hid (HI.out.keep hbS)
  have HKk_ := Lib.hid (HKk.out.keep hbS)
  have H7_ := Lib.hid (H7.out.keep hbS)
  have HBn := Lib.hid (HB.out.trans (hbS.mono hsA))
  clear HB hsA HI HKk H7
  have HI := HI_
  clear HI_
  have HKk := HKk_
  clear HKk_
  have H7 := H7_
  clear H7_
  have HB := HBn
  clear HBn
  have hsA := Nat.le_trans (Nat.le_of_eq HGA.out.symm) HB.out.size
  change Code.wp _ _ _ _ ((w14.alloc (.cells Z1 27)).setCells w14.heap.size 0 DP)
  clear hbS
  generalize (w14.alloc (.cells Z1 27)).setCells w14.heap.size 0 DP = w15 at *
  generalize w14.heap.size = G9 at *
  go_wp2_with (first | (refine wpList_load_mid rfl _ _ rfl GA 0 rfl DA _ HI.out.rg Try.underlying27 rfl SA.out.size ?_) | (refine wpList_load_mid rfl _ _ rfl GK 0 rfl DK _ HKk.out.rg Try.underlying27 rfl SK.out.size ?_) | (refine wpList_load_mid rfl _ _ rfl G7 0 rfl DP _ H7.out.rg Try.underlying27 rfl SP.out.size ?_) | (refine wpList_load_mid rfl _ _ rfl G9 0 rfl DP _ H9.out.rg Try.underlying27 rfl SP.out.size ?_))
  refine (CH0.out _).mono ?_
  rintro e w16 ⟨rfl, hb6⟩
  have HI_ := Lib.hid (HI.out.keep hb6)
  have HKk_ := Lib.hid (HKk.out.keep hb6)
  have H7_ := Lib.hid (H7.out.keep hb6)
  have H9_ := Lib.hid (H9.out.keep hb6)
  have HBn := Lib.hid (HB.out.trans (hb6.mono hsA))
  clear HB hsA HI HKk H7 H9
  have HI := HI_
  clear HI_
  have HKk := HKk_
  clear HKk_
  have H7 := H7_
  clear H7_
  have H9 := H9_
  clear H9_
  have HB := HBn
  clear HBn
  have hsA := Nat.le_trans (Nat.le_of_eq HGA.out.symm) HB.out.size
  clear hb6
  go_wp2_with (first | (refine wpList_load_mid rfl _ _ rfl GA 0 rfl DA _ HI.out.rg Try.underlying27 rfl SA.out.size ?_) | (refine wpList_load_mid rfl _ _ rfl GK 0 rfl DK _ HKk.out.rg Try.underlying27 rfl SK.out.size ?_) | (refine wpList_load_mid rfl _ _ rfl G7 0 rfl DP _ H7.out.rg Try.underlying27 rfl SP.out.size ?_) | (refine wpList_load_mid rfl _ _ rfl G9 0 rfl DP _ H9.out.rg Try.underlying27 rfl SP.out.size ?_))
  refine (CP2.out _).mono ?_
  rintro e w17 ⟨rfl, hb7⟩
  have HI_ := Lib.hid (HI.out.keep hb7)
  have HKk_ := Lib.hid (HKk.out.keep hb7)
  have H7_ := Lib.hid (H7.out.keep hb7)
  have H9_ := Lib.hid (H9.out.keep hb7)
  have HBn := Lib.hid (HB.out.trans (hb7.mono hsA))
  clear HB hsA HI HKk H7 H9
  have HI := HI_
  clear HI_
  have HKk := HKk_
  clear HKk_
  have H7 := H7_
  clear H7_
  have H9 := H9_
  clear H9_
  have HB := HBn
  clear HBn
  have hsA := Nat.le_trans (Nat.le_of_eq HGA.out.symm) HB.out.size
  clear hb7
  go_upto_region 6 with (first | (refine wpList_load_mid rfl _ _ rfl GA 0 rfl DA _ HI.out.rg Try.underlying27 rfl SA.out.size ?_) | (refine wpList_load_mid rfl _ _ rfl GK 0 rfl DK _ HKk.out.rg Try.underlying27 rfl SK.out.size ?_) | (refine wpList_load_mid rfl _ _ rfl G7 0 rfl DP _ H7.out.rg Try.underlying27 rfl SP.out.size ?_) | (refine wpList_load_mid rfl _ _ rfl G9 0 rfl DP _ H9.out.rg Try.underlying27 rfl SP.out.size ?_) | (refine wpList_store_mid rfl _ _ _ rfl w17.heap.size 0 DA.toArray rfl rfl (Sm.there_new w17 Z1 _ _ (by rw [List.size_toArray, SA.out.len, HZs.out]; exact Nat.le_refl _)) SA.out.size2 SA.out.one ?_))
  have hbS := laid_below w17 Z1 DA 27
  have H11 := Lib.hid (Bx.laid w17 Z1 DA HZs.out SA.out.len 27)
  have HI_ := Lib.hid (HI.out.keep hbS)
  have HKk_ := Lib.hid (HKk.out.keep hbS)
  have H7_ := Lib.hid (H7.out.keep hbS)
  have H9_ := Lib.hid (H9.out.keep hbS)
  have HBn := Lib.hid (HB.out.trans (hbS.mono hsA))
  clear HB hsA HI HKk H7 H9
  have HI := HI_
  clear HI_
  have HKk := HKk_
  clear HKk_
  have H7 := H7_
  clear H7_
  have H9 := H9_
  clear H9_
  have HB := HBn
  clear HBn
  have hsA := Nat.le_trans (Nat.le_of_eq HGA.out.symm) HB.out.size
  change Code.wp _ _ _ _ ((w17.alloc (.cells Z1 27)).setCells w17.heap.size 0 DA)
  clear hbS
  generalize (w17.alloc (.cells Z1 27)).setCells w17.heap.size 0 DA = w18 at *
  generalize w17.heap.size = G11 at *
  go_wp2_with (first | (refine wpList_load_mid rfl _ _ rfl GA 0 rfl DA _ HI.out.rg Try.underlying27 rfl SA.out.size ?_) | (refine wpList_load_mid rfl _ _ rfl GK 0 rfl DK _ HKk.out.rg Try.underlying27 rfl SK.out.size ?_) | (refine wpList_load_mid rfl _ _ rfl G7 0 rfl DP _ H7.out.rg Try.underlying27 rfl SP.out.size ?_) | (refine wpList_load_mid rfl _ _ rfl G9 0 rfl DP _ H9.out.rg Try.underlying27 rfl SP.out.size ?_) | (refine wpList_load_mid rfl _ _ rfl G11 0 rfl DA _ H11.out.rg Try.underlying27 rfl SA.out.size ?_))
  refine (CH0.out _).mono ?_
  rintro e w19 ⟨rfl, hb9⟩
  have HI_ := Lib.hid (HI.out.keep hb9)
  have HKk_ := Lib.hid (HKk.out.keep hb9)
  have H7_ := Lib.hid (H7.out.keep hb9)
  have H9_ := Lib.hid (H9.out.keep hb9)
  have H11_ := Lib.hid (H11.out.keep hb9)
  have HBn := Lib.hid (HB.out.trans (hb9.mono hsA))
  clear HB hsA HI HKk H7 H9 H11
  have HI := HI_
  clear HI_
  have HKk := HKk_
  clear HKk_
  have H7 := H7_
  clear H7_
  have H9 := H9_
  clear H9_
  have H11 := H11_
  clear H11_
  have HB := HBn
  clear HBn
  have hsA := Nat.le_trans (Nat.le_of_eq HGA.out.symm) HB.out.size
  clear hb9
  go_wp2_with (first | (refine wpList_load_mid rfl _ _ rfl GA 0 rfl DA _ HI.out.rg Try.underlying27 rfl SA.out.size ?_) | (refine wpList_load_mid rfl _ _ rfl GK 0 rfl DK _ HKk.out.rg Try.underlying27 rfl SK.out.size ?_) | (refine wpList_load_mid rfl _ _ rfl G7 0 rfl DP _ H7.out.rg Try.underlying27 rfl SP.out.size ?_) | (refine wpList_load_mid rfl _ _ rfl G9 0 rfl DP _ H9.out.rg Try.underlying27 rfl SP.out.size ?_) | (refine wpList_load_mid rfl _ _ rfl G11 0 rfl DA _ H11.out.rg Try.underlying27 rfl SA.out.size ?_))
  refine (CP3.out _).mono ?_
  rintro e w20 ⟨rfl, hb10⟩
  have HI_ := Lib.hid (HI.out.keep hb10)
  have HKk_ := Lib.hid (HKk.out.keep hb10)
  have H7_ := Lib.hid (H7.out.keep hb10)
  have H9_ := Lib.hid (H9.out.keep hb10)
  have H11_ := Lib.hid (H11.out.keep hb10)
  have HBn := Lib.hid (HB.out.trans (hb10.mono hsA))
  clear HB hsA HI HKk H7 H9 H11
  have HI := HI_
  clear HI_
  have HKk := HKk_
  clear HKk_
  have H7 := H7_
  clear H7_
  have H9 := H9_
  clear H9_
  have H11 := H11_
  clear H11_
  have HB := HBn
  clear HBn
  have hsA := Nat.le_trans (Nat.le_of_eq HGA.out.symm) HB.out.size
  clear hb10
  go_upto_region 8 with (first | (refine wpList_load_mid rfl _ _ rfl GA 0 rfl DA _ HI.out.rg Try.underlying27 rfl SA.out.size ?_) | (refine wpList_load_mid rfl _ _ rfl GK 0 rfl DK _ HKk.out.rg Try.underlying27 rfl SK.out.size ?_) | (refine wpList_load_mid rfl _ _ rfl G7 0 rfl DP _ H7.out.rg Try.underlying27 rfl SP.out.size ?_) | (refine wpList_load_mid rfl _ _ rfl G9 0 rfl DP _ H9.out.rg Try.underlying27 rfl SP.out.size ?_) | (refine wpList_load_mid rfl _ _ rfl G11 0 rfl DA _ H11.out.rg Try.underlying27 rfl SA.out.size ?_) | (refine wpList_store_mid rfl _ _ _ rfl w20.heap.size 0 DZ.toArray rfl rfl (Sm.there_new w20 Z1 _ _ (by rw [List.size_toArray, SZ.out.len, HZs.out]; exact Nat.le_refl _)) SZ.out.size2 SZ.out.one ?_))
  have hbS := laid_below w20 Z1 DZ 27
  have H14 := Lib.hid (Bx.laid w20 Z1 DZ HZs.out SZ.out.len 27)
  have HI_ := Lib.hid (HI.out.keep hbS)
  have HKk_ := Lib.hid (HKk.out.keep hbS)
  have H7_ := Lib.hid (H7.out.keep hbS)
  have H9_ := Lib.hid (H9.out.keep hbS)
  have H11_ := Lib.hid (H11.out.keep hbS)
  have HBn := Lib.hid (HB.out.trans (hbS.mono hsA))
  clear HB hsA HI HKk H7 H9 H11
  have HI := HI_
  clear HI_
  have HKk := HKk_
  clear HKk_
  have H7 := H7_
  clear H7_
  have H9 := H9_
  clear H9_
  have H11 := H11_
  clear H11_
  have HB := HBn
  clear HBn
  have hsA := Nat.le_trans (Nat.le_of_eq HGA.out.symm) HB.out.size
  change Code.wp _ _ _ _ ((w20.alloc (.cells Z1 27)).setCells w20.heap.size 0 DZ)
  clear hbS
  generalize (w20.alloc (.cells Z1 27)).setCells w20.heap.size 0 DZ = w21 at *
  generalize w20.heap.size = G14 at *
  have HX : Hid (Six w21.drew GA GK G7 G9 G11 G14 DA DK DP DZ) := Lib.hid ⟨HI.out.drew, HKk.out.drew, H7.out.drew, H9.out.drew, H11.out.drew, H14.out.drew⟩
  have hsD : GA ≤ w21.drew.heap.size := hsA
  have dB : Hid (Below GA w w21.drew) := Lib.hid (Sm.below_drewN HB.out 1)
  clear HI HKk H7 H9 H11 H14 HB hsA
  refine wp_region_noPanic ?_
  refine wp_region_held_drew (S := (fun wS => Six wS GA GK G7 G9 G11 G14 DA DK DP DZ)) (by kernel_rfl) ?_ (fun hHeld => ?_)
  · ((try dsimp only); exact HX.out)
  refine' wpAnyH_take (i := 0) (oi := { dst := some 46, op := Op.load 27 (Operand.tmp 3), type := 27, pos := "law.go:95", after := #[], guard := none }) (v := _) rfl (by kernel_rfl) (by kernel_rfl) (by kernel_rfl) (fun _ _ _ h => h) (yieldsIf_load_mid (by rfl) _ _ rfl _ _ rfl DA _ (fun w hSw => hSw.a.rg) Try.underlying27 rfl SA.out.size) (by assumption) ?_
  (try simp only [Act.put, List.setIfInBounds_toArray, List.set_cons_zero, List.set_cons_succ])
  refine' wpAnyH_take (i := 2) (oi := { dst := some 48, op := Op.load 27 (Operand.tmp 3), type := 27, pos := "law.go:95", after := #[], guard := none }) (v := _) rfl (by kernel_rfl) (by kernel_rfl) (by kernel_rfl) (fun _ _ _ h => h) (yieldsIf_load_mid (by rfl) _ _ rfl _ _ rfl DA _ (fun w hSw => hSw.a.rg) Try.underlying27 rfl SA.out.size) (by assumption) ?_
  (try simp only [Act.put, List.setIfInBounds_toArray, List.set_cons_zero, List.set_cons_succ])
  refine wpAnyH_ready (rs := [1]) (by kernel_rfl) (by simp) ?_
  refine AllReadyH.cons (o := { dst := some 47, op := Op.call { callee := Callee.value (Operand.func 17), args := #[Operand.tmp 46], argTypes := #[27] }, type := 9, pos := "law.go:95", after := #[{ on := 0, ground := Ground.data }], guard := none }) rfl (fun K hK => ?_) ?_
  · go_simp
    refine (CH0.out _).mono ?_
    rintro e wB ⟨rfl, hb⟩
    have HX2 := Lib.hid (HX.out.keep hb)
    have dB2 := Lib.hid (dB.out.trans (hb.mono hsD))
    clear HX dB hb hsD
    have HX := HX2
    have dB := dB2
    clear HX2 dB2
    have hsD := Nat.le_trans (Nat.le_of_eq HGA.out.symm) dB.out.size
    (try go_wp2_with fail)
    refine hK.out _ _ ?_ (fun hNew => ?_)
    · ((try dsimp only); exact HX.out)
    clear hK K hHeld
    have hHeld := hNew
    clear hNew
    (try simp only [Act.put, List.setIfInBounds_toArray, List.set_cons_zero, List.set_cons_succ])
    refine wpAnyH_ready (rs := [3]) (by kernel_rfl) (by simp) ?_
    refine AllReadyH.cons (o := { dst := some 49, op := Op.call { callee := Callee.value (Operand.func 18), args := #[Operand.tmp 48], argTypes := #[27] }, type := 9, pos := "law.go:95", after := #[{ on := 2, ground := Ground.data }, { on := 1, ground := Ground.chain }], guard := none }) rfl (fun K hK => ?_) ?_
    · go_simp
      refine (CG0.out _).mono ?_
      rintro e wB ⟨rfl, hb⟩
      have HX2 := Lib.hid (HX.out.keep hb)
      have dB2 := Lib.hid (dB.out.trans (hb.mono hsD))
      clear HX dB hb hsD
      have HX := HX2
      have dB := dB2
      clear HX2 dB2
      have hsD := Nat.le_trans (Nat.le_of_eq HGA.out.symm) dB.out.size
      (try go_wp2_with fail)
      refine hK.out _ _ ?_ (fun hNew => ?_)
      · ((try dsimp only); exact HX.out)
      clear hK K hHeld
      have hHeld := hNew
      clear hNew
      (try simp only [Act.put, List.setIfInBounds_toArray, List.set_cons_zero, List.set_cons_succ])
      refine wpAnyH_take (i := 4) (oi := { dst := some 50, op := Op.binOp BinOp.eql 9 (Operand.tmp 47) (Operand.tmp 49) 9, type := 4, pos := "law.go:95", after := #[{ on := 1, ground := Ground.data }, { on := 3, ground := Ground.data }], guard := none }) (v := ?_) rfl (by kernel_rfl) (by kernel_rfl) (by kernel_rfl) (fun _ _ _ h => h) (Or.inl ⟨by rfl, ?_⟩) (by assumption) ?_
      rotate_left 1
      · ((intro w hSw; (try dsimp only at hSw); go_simp) <;> with_reducible rfl)
      (try simp only [Act.put, List.setIfInBounds_toArray, List.set_cons_zero, List.set_cons_succ])
      refine wpAnyH_take (i := 5) (oi := { dst := some 51, op := Op.move (Operand.tmp 50), type := 4, pos := "law.go:95", after := #[{ on := 4, ground := Ground.data }, { on := 3, ground := Ground.chain }], guard := none }) (v := ?_) rfl (by kernel_rfl) (by kernel_rfl) (by kernel_rfl) (fun _ _ _ h => h) (Or.inl ⟨by rfl, ?_⟩) (by assumption) ?_
      rotate_left 1
      · ((intro w hSw; (try dsimp only at hSw); go_simp) <;> with_reducible rfl)
      (try simp only [Act.put, List.setIfInBounds_toArray, List.set_cons_zero, List.set_cons_succ])
      refine' wpAnyH_take (i := 6) (oi := { dst := some 52, op := Op.load 27 (Operand.tmp 7), type := 27, pos := "law.go:95", after := #[{ on := 5, ground := Ground.guard }], guard := some (5, true) }) (v := _) rfl (by kernel_rfl) (by kernel_rfl) (by kernel_rfl) (fun _ _ _ h => h) (yieldsIf_load_mid (by rfl) _ _ rfl _ _ rfl DP _ (fun w hSw => hSw.p.rg) Try.underlying27 rfl SP.out.size) (by assumption) ?_
      (try simp only [Act.put, List.setIfInBounds_toArray, List.set_cons_zero, List.set_cons_succ])
      refine' wpAnyH_take (i := 7) (oi := { dst := some 53, op := Op.load 27 (Operand.tmp 9), type := 27, pos := "law.go:95", after := #[{ on := 5, ground := Ground.guard }], guard := some (5, true) }) (v := _) rfl (by kernel_rfl) (by kernel_rfl) (by kernel_rfl) (fun _ _ _ h => h) (yieldsIf_load_mid (by rfl) _ _ rfl _ _ rfl DP _ (fun w hSw => hSw.q.rg) Try.underlying27 rfl SP.out.size) (by assumption) ?_
      (try simp only [Act.put, List.setIfInBounds_toArray, List.set_cons_zero, List.set_cons_succ])
      refine wpAnyH_take (i := 8) (oi := { dst := some 54, op := Op.binOp BinOp.eql 27 (Operand.tmp 52) (Operand.tmp 53) 27, type := 4, pos := "law.go:95", after := #[{ on := 6, ground := Ground.data }, { on := 7, ground := Ground.data }, { on := 5, ground := Ground.guard }], guard := some (5, true) }) (v := ?_) rfl (by kernel_rfl) (by kernel_rfl) (by kernel_rfl) (fun _ _ _ h => h) (Or.inl ⟨by rfl, ?_⟩) (by assumption) ?_
      rotate_left 1
      · ((intro w hSw; (try dsimp only at hSw); go_simp) <;> with_reducible rfl)
      (try simp only [Act.put, List.setIfInBounds_toArray, List.set_cons_zero, List.set_cons_succ])
      refine wpAnyH_take (i := 9) (oi := { dst := some 55, op := Op.pick (Operand.tmp 51) (Operand.tmp 54) (Operand.const (Value.bool false)), type := 4, pos := "law.go:95", after := #[{ on := 5, ground := Ground.data }, { on := 8, ground := Ground.data }], guard := none }) (v := ?_) rfl (by kernel_rfl) (by kernel_rfl) (by kernel_rfl) (fun _ _ _ h => h) (Or.inl ⟨by rfl, ?_⟩) (by assumption) ?_
      rotate_left 1
      · ((intro w hSw; (try dsimp only at hSw); go_simp) <;> with_reducible rfl)
      (try simp only [Act.put, List.setIfInBounds_toArray, List.set_cons_zero, List.set_cons_succ])
      refine wpAnyH_take (i := 10) (oi := { dst := some 56, op := Op.move (Operand.tmp 55), type := 4, pos := "law.go:95", after := #[{ on := 9, ground := Ground.data }, { on := 5, ground := Ground.chain }], guard := none }) (v := ?_) rfl (by kernel_rfl) (by kernel_rfl) (by kernel_rfl) (fun _ _ _ h => h) (Or.inl ⟨by rfl, ?_⟩) (by assumption) ?_
      rotate_left 1
      · ((intro w hSw; (try dsimp only at hSw); go_simp) <;> with_reducible rfl)
      (try simp only [Act.put, List.setIfInBounds_toArray, List.set_cons_zero, List.set_cons_succ])
      refine wpAnyH_take (i := 11) (oi := { dst := some 57, op := Op.move (Operand.tmp 8), type := 39, pos := "law.go:95", after := #[{ on := 10, ground := Ground.guard }], guard := some (10, true) }) (v := ?_) rfl (by kernel_rfl) (by kernel_rfl) (by kernel_rfl) (fun _ _ _ h => h) (Or.inl ⟨by rfl, ?_⟩) (by assumption) ?_
      rotate_left 1
      · ((intro w hSw; (try dsimp only at hSw); go_simp) <;> with_reducible rfl)
      (try simp only [Act.put, List.setIfInBounds_toArray, List.set_cons_zero, List.set_cons_succ])
      refine wpAnyH_take (i := 12) (oi := { dst := some 58, op := Op.move (Operand.tmp 10), type := 3, pos := "law.go:95", after := #[{ on := 10, ground := Ground.guard }], guard := some (10, true) }) (v := ?_) rfl (by kernel_rfl) (by kernel_rfl) (by kernel_rfl) (fun _ _ _ h => h) (Or.inl ⟨by rfl, ?_⟩) (by assumption) ?_
      rotate_left 1
      · ((intro w hSw; (try dsimp only at hSw); go_simp) <;> with_reducible rfl)
      (try simp only [Act.put, List.setIfInBounds_toArray, List.set_cons_zero, List.set_cons_succ])
      refine wpAnyH_take (i := 13) (oi := { dst := some 59, op := Op.binOp BinOp.eql 3 (Operand.tmp 57) (Operand.tmp 58) 3, type := 4, pos := "law.go:95", after := #[{ on := 11, ground := Ground.data }, { on := 12, ground := Ground.data }, { on := 10, ground := Ground.guard }], guard := some (10, true) }) (v := ?_) rfl (by kernel_rfl) (by kernel_rfl) (by kernel_rfl) (fun _ _ _ h => h) (Or.inl ⟨by rfl, ?_⟩) (by assumption) ?_
      rotate_left 1
      · ((intro w hSw; (try dsimp only at hSw); go_simp) <;> with_reducible rfl)
      (try simp only [Act.put, List.setIfInBounds_toArray, List.set_cons_zero, List.set_cons_succ])
      refine wpAnyH_take (i := 14) (oi := { dst := some 60, op := Op.pick (Operand.tmp 56) (Operand.tmp 59) (Operand.const (Value.bool false)), type := 4, pos := "law.go:95", after := #[{ on := 10, ground := Ground.data }, { on := 13, ground := Ground.data }], guard := none }) (v := ?_) rfl (by kernel_rfl) (by kernel_rfl) (by kernel_rfl) (fun _ _ _ h => h) (Or.inl ⟨by rfl, ?_⟩) (by assumption) ?_
      rotate_left 1
      · ((intro w hSw; (try dsimp only at hSw); go_simp) <;> with_reducible rfl)
      (try simp only [Act.put, List.setIfInBounds_toArray, List.set_cons_zero, List.set_cons_succ])
      refine wpAnyH_take (i := 15) (oi := { dst := some 61, op := Op.move (Operand.tmp 60), type := 4, pos := "law.go:95", after := #[{ on := 14, ground := Ground.data }, { on := 10, ground := Ground.chain }], guard := none }) (v := ?_) rfl (by kernel_rfl) (by kernel_rfl) (by kernel_rfl) (fun _ _ _ h => h) (Or.inl ⟨by rfl, ?_⟩) (by assumption) ?_
      rotate_left 1
      · ((intro w hSw; (try dsimp only at hSw); go_simp) <;> with_reducible rfl)
      (try simp only [Act.put, List.setIfInBounds_toArray, List.set_cons_zero, List.set_cons_succ])
      refine' wpAnyH_take (i := 16) (oi := { dst := some 62, op := Op.load 27 (Operand.tmp 11), type := 27, pos := "law.go:95", after := #[{ on := 15, ground := Ground.guard }], guard := some (15, true) }) (v := _) rfl (by kernel_rfl) (by kernel_rfl) (by kernel_rfl) (fun _ _ _ h => h) (yieldsIf_load_mid (by rfl) _ _ rfl _ _ rfl DA _ (fun w hSw => hSw.c.rg) Try.underlying27 rfl SA.out.size) (by assumption) ?_
      (try simp only [Act.put, List.setIfInBounds_toArray, List.set_cons_zero, List.set_cons_succ])
      refine' wpAnyH_take (i := 17) (oi := { dst := some 63, op := Op.load 27 (Operand.tmp 3), type := 27, pos := "law.go:95", after := #[{ on := 15, ground := Ground.guard }], guard := some (15, true) }) (v := _) rfl (by kernel_rfl) (by kernel_rfl) (by kernel_rfl) (fun _ _ _ h => h) (yieldsIf_load_mid (by rfl) _ _ rfl _ _ rfl DA _ (fun w hSw => hSw.a.rg) Try.underlying27 rfl SA.out.size) (by assumption) ?_
      (try simp only [Act.put, List.setIfInBounds_toArray, List.set_cons_zero, List.set_cons_succ])
      refine wpAnyH_take (i := 18) (oi := { dst := some 64, op := Op.binOp BinOp.eql 27 (Operand.tmp 62) (Operand.tmp 63) 27, type := 4, pos := "law.go:95", after := #[{ on := 16, ground := Ground.data }, { on := 17, ground := Ground.data }, { on := 15, ground := Ground.guard }], guard := some (15, true) }) (v := ?_) rfl (by kernel_rfl) (by kernel_rfl) (by kernel_rfl) (fun _ _ _ h => h) (Or.inl ⟨by rfl, ?_⟩) (by assumption) ?_
      rotate_left 1
      · ((intro w hSw; (try dsimp only at hSw); go_simp) <;> with_reducible rfl)
      (try simp only [Act.put, List.setIfInBounds_toArray, List.set_cons_zero, List.set_cons_succ])
      refine wpAnyH_take (i := 19) (oi := { dst := some 65, op := Op.pick (Operand.tmp 61) (Operand.tmp 64) (Operand.const (Value.bool false)), type := 4, pos := "law.go:95", after := #[{ on := 15, ground := Ground.data }, { on := 18, ground := Ground.data }], guard := none }) (v := ?_) rfl (by kernel_rfl) (by kernel_rfl) (by kernel_rfl) (fun _ _ _ h => h) (Or.inl ⟨by rfl, ?_⟩) (by assumption) ?_
      rotate_left 1
      · ((intro w hSw; (try dsimp only at hSw); go_simp) <;> with_reducible rfl)
      (try simp only [Act.put, List.setIfInBounds_toArray, List.set_cons_zero, List.set_cons_succ])
      refine wpAnyH_take (i := 20) (oi := { dst := some 66, op := Op.move (Operand.tmp 65), type := 4, pos := "law.go:95", after := #[{ on := 19, ground := Ground.data }, { on := 15, ground := Ground.chain }], guard := none }) (v := ?_) rfl (by kernel_rfl) (by kernel_rfl) (by kernel_rfl) (fun _ _ _ h => h) (Or.inl ⟨by rfl, ?_⟩) (by assumption) ?_
      rotate_left 1
      · ((intro w hSw; (try dsimp only at hSw); go_simp) <;> with_reducible rfl)
      (try simp only [Act.put, List.setIfInBounds_toArray, List.set_cons_zero, List.set_cons_succ])
      refine wpAnyH_take (i := 21) (oi := { dst := some 67, op := Op.move (Operand.tmp 12), type := 39, pos := "law.go:95", after := #[{ on := 20, ground := Ground.guard }], guard := some (20, true) }) (v := ?_) rfl (by kernel_rfl) (by kernel_rfl) (by kernel_rfl) (fun _ _ _ h => h) (Or.inl ⟨by rfl, ?_⟩) (by assumption) ?_
      rotate_left 1
      · ((intro w hSw; (try dsimp only at hSw); go_simp) <;> with_reducible rfl)
      (try simp only [Act.put, List.setIfInBounds_toArray, List.set_cons_zero, List.set_cons_succ])
      refine wpAnyH_take (i := 22) (oi := { dst := some 68, op := Op.binOp BinOp.eql 3 (Operand.tmp 67) (Operand.const (Value.int IntKind.i64 0)) 3, type := 4, pos := "law.go:95", after := #[{ on := 21, ground := Ground.data }, { on := 20, ground := Ground.guard }], guard := some (20, true) }) (v := ?_) rfl (by kernel_rfl) (by kernel_rfl) (by kernel_rfl) (fun _ _ _ h => h) (Or.inl ⟨by rfl, ?_⟩) (by assumption) ?_
      rotate_left 1
      · ((intro w hSw; (try dsimp only at hSw); go_simp) <;> with_reducible rfl)
      (try simp only [Act.put, List.setIfInBounds_toArray, List.set_cons_zero, List.set_cons_succ])
      refine wpAnyH_take (i := 23) (oi := { dst := some 69, op := Op.pick (Operand.tmp 66) (Operand.tmp 68) (Operand.const (Value.bool false)), type := 4, pos := "law.go:95", after := #[{ on := 20, ground := Ground.data }, { on := 22, ground := Ground.data }], guard := none }) (v := ?_) rfl (by kernel_rfl) (by kernel_rfl) (by kernel_rfl) (fun _ _ _ h => h) (Or.inl ⟨by rfl, ?_⟩) (by assumption) ?_
      rotate_left 1
      · ((intro w hSw; (try dsimp only at hSw); go_simp) <;> with_reducible rfl)
      (try simp only [Act.put, List.setIfInBounds_toArray, List.set_cons_zero, List.set_cons_succ])
      refine wpAnyH_take (i := 24) (oi := { dst := some 70, op := Op.move (Operand.tmp 69), type := 4, pos := "law.go:95", after := #[{ on := 23, ground := Ground.data }, { on := 20, ground := Ground.chain }], guard := none }) (v := ?_) rfl (by kernel_rfl) (by kernel_rfl) (by kernel_rfl) (fun _ _ _ h => h) (Or.inl ⟨by rfl, ?_⟩) (by assumption) ?_
      rotate_left 1
      · ((intro w hSw; (try dsimp only at hSw); go_simp) <;> with_reducible rfl)
      (try simp only [Act.put, List.setIfInBounds_toArray, List.set_cons_zero, List.set_cons_succ])
      refine' wpAnyH_take (i := 25) (oi := { dst := some 71, op := Op.load 27 (Operand.tmp 14), type := 27, pos := "law.go:95", after := #[{ on := 24, ground := Ground.guard }], guard := some (24, true) }) (v := _) rfl (by kernel_rfl) (by kernel_rfl) (by kernel_rfl) (fun _ _ _ h => h) (yieldsIf_load_mid (by rfl) _ _ rfl _ _ rfl DZ _ (fun w hSw => hSw.z.rg) Try.underlying27 rfl SZ.out.size) (by assumption) ?_
      (try simp only [Act.put, List.setIfInBounds_toArray, List.set_cons_zero, List.set_cons_succ])
      refine wpAnyH_take (i := 26) (oi := { dst := some 72, op := Op.build 27 #[], type := 27, pos := "law.go:95", after := #[{ on := 24, ground := Ground.guard }], guard := some (24, true) }) (v := ?_) rfl (by kernel_rfl) (by kernel_rfl) (by kernel_rfl) (fun _ _ _ h => h) (Or.inl ⟨by rfl, ?_⟩) (by assumption) ?_
      rotate_left 1
      · ((intro w hSw; (try dsimp only at hSw); go_simp) <;> with_reducible rfl)
      (try simp only [Act.put, List.setIfInBounds_toArray, List.set_cons_zero, List.set_cons_succ])
      refine wpAnyH_take (i := 27) (oi := { dst := some 73, op := Op.binOp BinOp.eql 27 (Operand.tmp 71) (Operand.tmp 72) 27, type := 4, pos := "law.go:95", after := #[{ on := 25, ground := Ground.data }, { on := 26, ground := Ground.data }, { on := 24, ground := Ground.guard }], guard := some (24, true) }) (v := ?_) rfl (by kernel_rfl) (by kernel_rfl) (by kernel_rfl) (fun _ _ _ h => h) (Or.inl ⟨by rfl, ?_⟩) (by assumption) ?_
      rotate_left 1
      · ((intro w hSw; (try dsimp only at hSw); go_simp) <;> with_reducible rfl)
      (try simp only [Act.put, List.setIfInBounds_toArray, List.set_cons_zero, List.set_cons_succ])
      refine wpAnyH_take (i := 28) (oi := { dst := some 74, op := Op.pick (Operand.tmp 70) (Operand.tmp 73) (Operand.const (Value.bool false)), type := 4, pos := "law.go:95", after := #[{ on := 24, ground := Ground.data }, { on := 27, ground := Ground.data }], guard := none }) (v := ?_) rfl (by kernel_rfl) (by kernel_rfl) (by kernel_rfl) (fun _ _ _ h => h) (Or.inl ⟨by rfl, ?_⟩) (by assumption) ?_
      rotate_left 1
      · ((intro w hSw; (try dsimp only at hSw); go_simp) <;> with_reducible rfl)
      (try simp only [Act.put, List.setIfInBounds_toArray, List.set_cons_zero, List.set_cons_succ])
      refine wpAnyH_take (i := 29) (oi := { dst := some 75, op := Op.move (Operand.tmp 74), type := 4, pos := "law.go:95", after := #[{ on := 28, ground := Ground.data }, { on := 24, ground := Ground.chain }], guard := none }) (v := ?_) rfl (by kernel_rfl) (by kernel_rfl) (by kernel_rfl) (fun _ _ _ h => h) (Or.inl ⟨by rfl, ?_⟩) (by assumption) ?_
      rotate_left 1
      · ((intro w hSw; (try dsimp only at hSw); go_simp) <;> with_reducible rfl)
      (try simp only [Act.put, List.setIfInBounds_toArray, List.set_cons_zero, List.set_cons_succ])
      refine wpAnyH_take (i := 30) (oi := { dst := some 76, op := Op.move (Operand.tmp 15), type := 39, pos := "law.go:95", after := #[{ on := 29, ground := Ground.guard }], guard := some (29, true) }) (v := ?_) rfl (by kernel_rfl) (by kernel_rfl) (by kernel_rfl) (fun _ _ _ h => h) (Or.inl ⟨by rfl, ?_⟩) (by assumption) ?_
      rotate_left 1
      · ((intro w hSw; (try dsimp only at hSw); go_simp) <;> with_reducible rfl)
      (try simp only [Act.put, List.setIfInBounds_toArray, List.set_cons_zero, List.set_cons_succ])
      refine wpAnyH_take (i := 31) (oi := { dst := some 77, op := Op.binOp BinOp.eql 3 (Operand.tmp 76) (Operand.const (Value.int IntKind.i64 1)) 3, type := 4, pos := "law.go:95", after := #[{ on := 30, ground := Ground.data }, { on := 29, ground := Ground.guard }], guard := some (29, true) }) (v := ?_) rfl (by kernel_rfl) (by kernel_rfl) (by kernel_rfl) (fun _ _ _ h => h) (Or.inl ⟨by rfl, ?_⟩) (by assumption) ?_
      rotate_left 1
      · ((intro w hSw; (try dsimp only at hSw); go_simp) <;> with_reducible rfl)
      (try simp only [Act.put, List.setIfInBounds_toArray, List.set_cons_zero, List.set_cons_succ])
      refine wpAnyH_take (i := 32) (oi := { dst := some 78, op := Op.pick (Operand.tmp 75) (Operand.tmp 77) (Operand.const (Value.bool false)), type := 4, pos := "law.go:95", after := #[{ on := 29, ground := Ground.data }, { on := 31, ground := Ground.data }], guard := none }) (v := ?_) rfl (by kernel_rfl) (by kernel_rfl) (by kernel_rfl) (fun _ _ _ h => h) (Or.inl ⟨by rfl, ?_⟩) (by assumption) ?_
      rotate_left 1
      · ((intro w hSw; (try dsimp only at hSw); go_simp) <;> with_reducible rfl)
      (try simp only [Act.put, List.setIfInBounds_toArray, List.set_cons_zero, List.set_cons_succ])
      refine wpAnyH_take (i := 33) (oi := { dst := some 79, op := Op.move (Operand.tmp 78), type := 4, pos := "law.go:95", after := #[{ on := 32, ground := Ground.data }, { on := 29, ground := Ground.chain }], guard := none }) (v := ?_) rfl (by kernel_rfl) (by kernel_rfl) (by kernel_rfl) (fun _ _ _ h => h) (Or.inl ⟨by rfl, ?_⟩) (by assumption) ?_
      rotate_left 1
      · ((intro w hSw; (try dsimp only at hSw); go_simp) <;> with_reducible rfl)
      (try simp only [Act.put, List.setIfInBounds_toArray, List.set_cons_zero, List.set_cons_succ])
      refine' wpAnyH_take (i := 34) (oi := { dst := some 80, op := Op.load 27 (Operand.tmp 3), type := 27, pos := "law.go:95", after := #[{ on := 33, ground := Ground.guard }], guard := some (33, true) }) (v := _) rfl (by kernel_rfl) (by kernel_rfl) (by kernel_rfl) (fun _ _ _ h => h) (yieldsIf_load_mid (by rfl) _ _ rfl _ _ rfl DA _ (fun w hSw => hSw.a.rg) Try.underlying27 rfl SA.out.size) (by assumption) ?_
      (try simp only [Act.put, List.setIfInBounds_toArray, List.set_cons_zero, List.set_cons_succ])
      refine' wpAnyH_take (i := 35) (oi := { dst := some 81, op := Op.load 27 (Operand.tmp 4), type := 27, pos := "law.go:95", after := #[{ on := 33, ground := Ground.guard }], guard := some (33, true) }) (v := _) rfl (by kernel_rfl) (by kernel_rfl) (by kernel_rfl) (fun _ _ _ h => h) (yieldsIf_load_mid (by rfl) _ _ rfl _ _ rfl DK _ (fun w hSw => hSw.k.rg) Try.underlying27 rfl SK.out.size) (by assumption) ?_
      (try simp only [Act.put, List.setIfInBounds_toArray, List.set_cons_zero, List.set_cons_succ])
      refine' wpAnyH_take (i := 37) (oi := { dst := some 83, op := Op.load 27 (Operand.tmp 3), type := 27, pos := "law.go:95", after := #[{ on := 33, ground := Ground.guard }], guard := some (33, true) }) (v := _) rfl (by kernel_rfl) (by kernel_rfl) (by kernel_rfl) (fun _ _ _ h => h) (yieldsIf_load_mid (by rfl) _ _ rfl _ _ rfl DA _ (fun w hSw => hSw.a.rg) Try.underlying27 rfl SA.out.size) (by assumption) ?_
      (try simp only [Act.put, List.setIfInBounds_toArray, List.set_cons_zero, List.set_cons_succ])
      refine' wpAnyH_take (i := 38) (oi := { dst := some 84, op := Op.load 27 (Operand.tmp 4), type := 27, pos := "law.go:95", after := #[{ on := 33, ground := Ground.guard }], guard := some (33, true) }) (v := _) rfl (by kernel_rfl) (by kernel_rfl) (by kernel_rfl) (fun _ _ _ h => h) (yieldsIf_load_mid (by rfl) _ _ rfl _ _ rfl DK _ (fun w hSw => hSw.k.rg) Try.underlying27 rfl SK.out.size) (by assumption) ?_
      (try simp only [Act.put, List.setIfInBounds_toArray, List.set_cons_zero, List.set_cons_succ])
      refine wpAnyH_ready (rs := [36]) (by kernel_rfl) (by simp) ?_
      refine AllReadyH.cons (o := { dst := some 82, op := Op.call { callee := Callee.value (Operand.func 19), args := #[Operand.tmp 80, Operand.tmp 81], argTypes := #[27, 27] }, type := 4, pos := "law.go:95", after := #[{ on := 34, ground := Ground.data }, { on := 35, ground := Ground.data }, { on := 33, ground := Ground.chain }, { on := 33, ground := Ground.guard }], guard := some (33, true) }) rfl (fun K hK => ?_) ?_
      · go_simp
        refine (CL.out _).mono ?_
        rintro e wB ⟨rfl, hb⟩
        have HX2 := Lib.hid (HX.out.keep hb)
        have dB2 := Lib.hid (dB.out.trans (hb.mono hsD))
        clear HX dB hb hsD
        have HX := HX2
        have dB := dB2
        clear HX2 dB2
        have hsD := Nat.le_trans (Nat.le_of_eq HGA.out.symm) dB.out.size
        (try go_wp2_with fail)
        refine hK.out _ _ ?_ (fun hNew => ?_)
        · ((try dsimp only); exact HX.out)
        clear hK K hHeld
        have hHeld := hNew
        clear hNew
        (try simp only [Act.put, List.setIfInBounds_toArray, List.set_cons_zero, List.set_cons_succ])
        refine wpAnyH_ready (rs := [39]) (by kernel_rfl) (by simp) ?_
        refine AllReadyH.cons (o := { dst := some 85, op := Op.call { callee := Callee.value (Operand.func 20), args := #[Operand.tmp 83, Operand.tmp 84], argTypes := #[27, 27] }, type := 4, pos := "law.go:95", after := #[{ on := 37, ground := Ground.data }, { on := 38, ground := Ground.data }, { on := 36, ground := Ground.chain }, { on := 33, ground := Ground.guard }], guard := some (33, true) }) rfl (fun K hK => ?_) ?_
        · go_simp
          refine (CM.out _).mono ?_
          rintro e wB ⟨rfl, hb⟩
          have HX2 := Lib.hid (HX.out.keep hb)
          have dB2 := Lib.hid (dB.out.trans (hb.mono hsD))
          clear HX dB hb hsD
          have HX := HX2
          have dB := dB2
          clear HX2 dB2
          have hsD := Nat.le_trans (Nat.le_of_eq HGA.out.symm) dB.out.size
          (try go_wp2_with fail)
          refine hK.out _ _ ?_ (fun hNew => ?_)
          · ((try dsimp only); exact HX.out)
          clear hK K hHeld
          have hHeld := hNew
          clear hNew
          (try simp only [Act.put, List.setIfInBounds_toArray, List.set_cons_zero, List.set_cons_succ])
          refine wpAnyH_take (i := 40) (oi := { dst := some 86, op := Op.binOp BinOp.eql 4 (Operand.tmp 82) (Operand.tmp 85) 4, type := 4, pos := "law.go:95", after := #[{ on := 36, ground := Ground.data }, { on := 39, ground := Ground.data }, { on := 33, ground := Ground.guard }], guard := some (33, true) }) (v := ?_) rfl (by kernel_rfl) (by kernel_rfl) (by kernel_rfl) (fun _ _ _ h => h) (Or.inl ⟨by rfl, ?_⟩) (by assumption) ?_
          rotate_left 1
          · ((intro w hSw; (try dsimp only at hSw); go_simp) <;> with_reducible rfl)
          (try simp only [Act.put, List.setIfInBounds_toArray, List.set_cons_zero, List.set_cons_succ])
          refine wpAnyH_take (i := 41) (oi := { dst := some 87, op := Op.pick (Operand.tmp 79) (Operand.tmp 86) (Operand.const (Value.bool false)), type := 4, pos := "law.go:95", after := #[{ on := 33, ground := Ground.data }, { on := 40, ground := Ground.data }], guard := none }) (v := ?_) rfl (by kernel_rfl) (by kernel_rfl) (by kernel_rfl) (fun _ _ _ h => h) (Or.inl ⟨by rfl, ?_⟩) (by assumption) ?_
          rotate_left 1
          · ((intro w hSw; (try dsimp only at hSw); go_simp) <;> with_reducible rfl)
          (try simp only [Act.put, List.setIfInBounds_toArray, List.set_cons_zero, List.set_cons_succ])
          refine wpAnyH_take (i := 42) (oi := { dst := some 88, op := Op.move (Operand.tmp 87), type := 4, pos := "law.go:95", after := #[{ on := 41, ground := Ground.data }, { on := 39, ground := Ground.chain }], guard := none }) (v := ?_) rfl (by kernel_rfl) (by kernel_rfl) (by kernel_rfl) (fun _ _ _ h => h) (Or.inl ⟨by rfl, ?_⟩) (by assumption) ?_
          rotate_left 1
          · ((intro w hSw; (try dsimp only at hSw); go_simp) <;> with_reducible rfl)
          (try simp only [Act.put, List.setIfInBounds_toArray, List.set_cons_zero, List.set_cons_succ])
          refine' wpAnyH_take (i := 43) (oi := { dst := some 89, op := Op.load 27 (Operand.tmp 3), type := 27, pos := "law.go:95", after := #[{ on := 42, ground := Ground.guard }], guard := some (42, true) }) (v := _) rfl (by kernel_rfl) (by kernel_rfl) (by kernel_rfl) (fun _ _ _ h => h) (yieldsIf_load_mid (by rfl) _ _ rfl _ _ rfl DA _ (fun w hSw => hSw.a.rg) Try.underlying27 rfl SA.out.size) (by assumption) ?_
          (try simp only [Act.put, List.setIfInBounds_toArray, List.set_cons_zero, List.set_cons_succ])
          refine' wpAnyH_take (i := 44) (oi := { dst := some 90, op := Op.load 27 (Operand.tmp 4), type := 27, pos := "law.go:95", after := #[{ on := 42, ground := Ground.guard }], guard := some (42, true) }) (v := _) rfl (by kernel_rfl) (by kernel_rfl) (by kernel_rfl) (fun _ _ _ h => h) (yieldsIf_load_mid (by rfl) _ _ rfl _ _ rfl DK _ (fun w hSw => hSw.k.rg) Try.underlying27 rfl SK.out.size) (by assumption) ?_
          (try simp only [Act.put, List.setIfInBounds_toArray, List.set_cons_zero, List.set_cons_succ])
          refine' wpAnyH_take (i := 46) (oi := { dst := some 92, op := Op.load 27 (Operand.tmp 3), type := 27, pos := "law.go:95", after := #[{ on := 42, ground := Ground.guard }], guard := some (42, true) }) (v := _) rfl (by kernel_rfl) (by kernel_rfl) (by kernel_rfl) (fun _ _ _ h => h) (yieldsIf_load_mid (by rfl) _ _ rfl _ _ rfl DA _ (fun w hSw => hSw.a.rg) Try.underlying27 rfl SA.out.size) (by assumption) ?_
          (try simp only [Act.put, List.setIfInBounds_toArray, List.set_cons_zero, List.set_cons_succ])
          refine' wpAnyH_take (i := 48) (oi := { dst := some 94, op := Op.load 27 (Operand.tmp 4), type := 27, pos := "law.go:95", after := #[{ on := 42, ground := Ground.guard }], guard := some (42, true) }) (v := _) rfl (by kernel_rfl) (by kernel_rfl) (by kernel_rfl) (fun _ _ _ h => h) (yieldsIf_load_mid (by rfl) _ _ rfl _ _ rfl DK _ (fun w hSw => hSw.k.rg) Try.underlying27 rfl SK.out.size) (by assumption) ?_
          (try simp only [Act.put, List.setIfInBounds_toArray, List.set_cons_zero, List.set_cons_succ])
          refine wpAnyH_ready (rs := [45]) (by kernel_rfl) (by simp) ?_
          refine AllReadyH.cons (o := { dst := some 91, op := Op.call { callee := Callee.value (Operand.func 19), args := #[Operand.tmp 89, Operand.tmp 90], argTypes := #[27, 27] }, type := 4, pos := "law.go:95", after := #[{ on := 43, ground := Ground.data }, { on := 44, ground := Ground.data }, { on := 42, ground := Ground.chain }, { on := 42, ground := Ground.guard }], guard := some (42, true) }) rfl (fun K hK => ?_) ?_
          · go_simp
            refine (CL.out _).mono ?_
            rintro e wB ⟨rfl, hb⟩
            have HX2 := Lib.hid (HX.out.keep hb)
            have dB2 := Lib.hid (dB.out.trans (hb.mono hsD))
            clear HX dB hb hsD
            have HX := HX2
            have dB := dB2
            clear HX2 dB2
            have hsD := Nat.le_trans (Nat.le_of_eq HGA.out.symm) dB.out.size
            (try go_wp2_with fail)
            refine hK.out _ _ ?_ (fun hNew => ?_)
            · ((try dsimp only); exact HX.out)
            clear hK K hHeld
            have hHeld := hNew
            clear hNew
            (try simp only [Act.put, List.setIfInBounds_toArray, List.set_cons_zero, List.set_cons_succ])
            refine wpAnyH_ready (rs := [47]) (by kernel_rfl) (by simp) ?_
            refine AllReadyH.cons (o := { dst := some 93, op := Op.call { callee := Callee.value (Operand.func 17), args := #[Operand.tmp 92], argTypes := #[27] }, type := 9, pos := "law.go:95", after := #[{ on := 46, ground := Ground.data }, { on := 45, ground := Ground.chain }, { on := 42, ground := Ground.guard }], guard := some (42, true) }) rfl (fun K hK => ?_) ?_
            · go_simp
              refine (CH0.out _).mono ?_
              rintro e wB ⟨rfl, hb⟩
              have HX2 := Lib.hid (HX.out.keep hb)
              have dB2 := Lib.hid (dB.out.trans (hb.mono hsD))
              clear HX dB hb hsD
              have HX := HX2
              have dB := dB2
              clear HX2 dB2
              have hsD := Nat.le_trans (Nat.le_of_eq HGA.out.symm) dB.out.size
              (try go_wp2_with fail)
              refine hK.out _ _ ?_ (fun hNew => ?_)
              · ((try dsimp only); exact HX.out)
              clear hK K hHeld
              have hHeld := hNew
              clear hNew
              (try simp only [Act.put, List.setIfInBounds_toArray, List.set_cons_zero, List.set_cons_succ])
              refine wpAnyH_ready (rs := [49]) (by kernel_rfl) (by simp) ?_
              refine AllReadyH.cons (o := { dst := some 95, op := Op.call { callee := Callee.value (Operand.func 17), args := #[Operand.tmp 94], argTypes := #[27] }, type := 9, pos := "law.go:95", after := #[{ on := 48, ground := Ground.data }, { on := 47, ground := Ground.chain }, { on := 42, ground := Ground.guard }], guard := some (42, true) }) rfl (fun K hK => ?_) ?_
              · go_simp
                refine (CH1.out _).mono ?_
                rintro e wB ⟨rfl, hb⟩
                have HX2 := Lib.hid (HX.out.keep hb)
                have dB2 := Lib.hid (dB.out.trans (hb.mono hsD))
                clear HX dB hb hsD
                have HX := HX2
                have dB := dB2
                clear HX2 dB2
                have hsD := Nat.le_trans (Nat.le_of_eq HGA.out.symm) dB.out.size
                (try go_wp2_with fail)
                refine hK.out _ _ ?_ (fun hNew => ?_)
                · ((try dsimp only); exact HX.out)
                clear hK K hHeld
                have hHeld := hNew
                clear hNew
                (try simp only [Act.put, List.setIfInBounds_toArray, List.set_cons_zero, List.set_cons_succ])
                refine wpAnyH_take (i := 50) (oi := { dst := some 96, op := Op.binOp BinOp.lss 9 (Operand.tmp 93) (Operand.tmp 95) 9, type := 4, pos := "law.go:95", after := #[{ on := 47, ground := Ground.data }, { on := 49, ground := Ground.data }, { on := 42, ground := Ground.guard }], guard := some (42, true) }) (v := ?_) rfl (by kernel_rfl) (by kernel_rfl) (by kernel_rfl) (fun _ _ _ h => h) (Or.inl ⟨by rfl, ?_⟩) (by assumption) ?_
                rotate_left 1
                · ((intro w hSw; (try dsimp only at hSw); go_simp) <;> with_reducible rfl)
                (try simp only [Act.put, List.setIfInBounds_toArray, List.set_cons_zero, List.set_cons_succ])
                refine wpAnyH_take (i := 51) (oi := { dst := some 97, op := Op.binOp BinOp.eql 4 (Operand.tmp 91) (Operand.tmp 96) 4, type := 4, pos := "law.go:95", after := #[{ on := 45, ground := Ground.data }, { on := 50, ground := Ground.data }, { on := 42, ground := Ground.guard }], guard := some (42, true) }) (v := ?_) rfl (by kernel_rfl) (by kernel_rfl) (by kernel_rfl) (fun _ _ _ h => h) (Or.inl ⟨by rfl, ?_⟩) (by assumption) ?_
                rotate_left 1
                · ((intro w hSw; (try dsimp only at hSw); go_simp) <;> with_reducible rfl)
                (try simp only [Act.put, List.setIfInBounds_toArray, List.set_cons_zero, List.set_cons_succ])
                refine wpAnyH_take (i := 52) (oi := { dst := some 98, op := Op.pick (Operand.tmp 88) (Operand.tmp 97) (Operand.const (Value.bool false)), type := 4, pos := "law.go:95", after := #[{ on := 42, ground := Ground.data }, { on := 51, ground := Ground.data }], guard := none }) (v := ?_) rfl (by kernel_rfl) (by kernel_rfl) (by kernel_rfl) (fun _ _ _ h => h) (Or.inl ⟨by rfl, ?_⟩) (by assumption) ?_
                rotate_left 1
                · ((intro w hSw; (try dsimp only at hSw); go_simp) <;> with_reducible rfl)
                (try simp only [Act.put, List.setIfInBounds_toArray, List.set_cons_zero, List.set_cons_succ])
                refine wpAnyH_take (i := 53) (oi := { dst := some 6, op := Op.assign (Operand.tmp 98), type := 4, pos := "law.go:95", after := #[{ on := 52, ground := Ground.data }, { on := 49, ground := Ground.chain }, { on := 0, ground := Ground.phase }, { on := 1, ground := Ground.phase }, { on := 2, ground := Ground.phase }, { on := 3, ground := Ground.phase }, { on := 4, ground := Ground.phase }, { on := 5, ground := Ground.phase }, { on := 6, ground := Ground.phase }, { on := 7, ground := Ground.phase }, { on := 8, ground := Ground.phase }, { on := 9, ground := Ground.phase }, { on := 10, ground := Ground.phase }, { on := 11, ground := Ground.phase }, { on := 12, ground := Ground.phase }, { on := 13, ground := Ground.phase }, { on := 14, ground := Ground.phase }, { on := 15, ground := Ground.phase }, { on := 16, ground := Ground.phase }, { on := 17, ground := Ground.phase }, { on := 18, ground := Ground.phase }, { on := 19, ground := Ground.phase }, { on := 20, ground := Ground.phase }, { on := 21, ground := Ground.phase }, { on := 22, ground := Ground.phase }, { on := 23, ground := Ground.phase }, { on := 24, ground := Ground.phase }, { on := 25, ground := Ground.phase }, { on := 26, ground := Ground.phase }, { on := 27, ground := Ground.phase }, { on := 28, ground := Ground.phase }, { on := 29, ground := Ground.phase }, { on := 30, ground := Ground.phase }, { on := 31, ground := Ground.phase }, { on := 32, ground := Ground.phase }, { on := 33, ground := Ground.phase }, { on := 34, ground := Ground.phase }, { on := 35, ground := Ground.phase }, { on := 36, ground := Ground.phase }, { on := 37, ground := Ground.phase }, { on := 38, ground := Ground.phase }, { on := 39, ground := Ground.phase }, { on := 40, ground := Ground.phase }, { on := 41, ground := Ground.phase }, { on := 42, ground := Ground.phase }, { on := 43, ground := Ground.phase }, { on := 44, ground := Ground.phase }, { on := 45, ground := Ground.phase }, { on := 46, ground := Ground.phase }, { on := 47, ground := Ground.phase }, { on := 48, ground := Ground.phase }, { on := 49, ground := Ground.phase }, { on := 50, ground := Ground.phase }, { on := 51, ground := Ground.phase }, { on := 52, ground := Ground.phase }], guard := none }) (v := ?_) rfl (by kernel_rfl) (by kernel_rfl) (by kernel_rfl) (fun _ _ _ h => h) (Or.inl ⟨by rfl, ?_⟩) (by assumption) ?_
                rotate_left 1
                · ((intro w hSw; (try dsimp only at hSw); go_simp) <;> with_reducible rfl)
                (try simp only [Act.put, List.setIfInBounds_toArray, List.set_cons_zero, List.set_cons_succ])
                refine wpAnyH_done (by kernel_rfl) ?_ _
                refine NoPanic.normal ?_
                go_wp2_with fail
                go_ret
                refine ⟨rfl, ?_⟩
                rw [HGA.out]
                exact dB.out
              exact AllReadyH.nil
            exact AllReadyH.nil
          exact AllReadyH.nil
        exact AllReadyH.nil
      exact AllReadyH.nil
    exact AllReadyH.nil
  exact AllReadyH.nil

set_option maxRecDepth 100000 in
theorem lifted (os : Os) (started : os.Started) (H : Type) (enc : TypeId × Value → H) :
    ReturnsInHanded {} Try.checked os 6 .any (Rows.sumDigitsSpec.pre6 enc Try.prog Try.f6 Rows.sumDigitsRow.domain false) (Rows.sumDigitsSpec.post enc Try.prog Try.f6 false true false false) := by
  refine returnsInHanded_of_change_sized (C := Try.checked) own started (by kernel_rfl) Try.func6
    (ChangeSpec.witness6 (enc := enc) (C := Try.checked) false ⟨#[], #[.agg (Array.replicate 32 (.int .u8 0)), .agg (Array.replicate 32 (.int .u8 0)), .string ByteArray.empty], []⟩ 8 (by kernel_rfl) (by kernel_rfl) (by kernel_rfl) (by kernel_rfl)) ?_
  intro W base args ds gs before hval0 hW _ hsz0 _
  have hsz : (DataW.weightsEach Try.prog (Try.f6.params.toList ++ Rows.sumDigitsSpec.plain.varTypes Try.prog) (ds ++ gs)).all (· ≤ reachBytes) = true := hsz0
  clear hsz0
  have hval : ∀ (j : Nat) t v, Try.f6.params[j]? = some t → args[j]? = some v → Value.okWide Try.prog W .any base t v := hval0
  have hW' := hW
  obtain ⟨p, q, hA0, hV, rfl, _, _⟩ := hW
  have hA : DataW.TrodAll enc Try.prog W 0 (fun _ => true) true Try.f6.params.toList args.toList ds p := hA0
  rw [Try.params6] at hA hval hsz
  obtain ⟨v0, vs0, d0, ds0, p0, q0, hargs, rfl, rfl, h0, r0⟩ := trodAll_cons hA
  obtain ⟨v1, vs1, d1, ds1, p1, q1, rfl, rfl, rfl, h1, r1⟩ := trodAll_cons r0
  obtain ⟨v2, vs2, d2, ds2, p2, q2, rfl, rfl, rfl, h2, r2⟩ := trodAll_cons r1
  obtain ⟨rfl, rfl, rfl⟩ := trodAll_nil r2
  obtain rfl : args = #[v0, v1, v2] := by cases args; simp_all
  obtain ⟨rfl, rfl⟩ := trodVars_none hV
  have k0 := h0
  have lt0 : ∀ x ∈ p0, x.block < W.heap.size := by obtain ⟨m, hm⟩ := k0; exact DataW.trod_lt m _ _ _ hm
  have k1 := h1
  have lt1 : ∀ x ∈ p1, x.block < W.heap.size := by obtain ⟨m, hm⟩ := k1; exact DataW.trod_lt m _ _ _ hm
  have k2 := h2
  have lt2 : ∀ x ∈ p2, x.block < W.heap.size := by obtain ⟨m, hm⟩ := k2; exact DataW.trod_lt m _ _ _ hm
  obtain ⟨a0, rfl, w0⟩ := Fr.isId_of Try.underlying27 Try.underlying5 (by kernel_rfl) (by kernel_rfl) (hval 0 27 v0 rfl rfl) h0
  obtain ⟨a1, rfl, w1⟩ := Fr.isId_of Try.underlying27 Try.underlying5 (by kernel_rfl) (by kernel_rfl) (hval 1 27 v1 rfl rfl) h1
  obtain ⟨a2, rfl, rfl, rfl, w2'⟩ := open_string Try.underlying9 (hval 2 9 v2 rfl rfl) h2
  have w2 : a2.size ≤ 140737488351232 := by have := sized_string hsz (j := 2) (t := 9) rfl rfl; simpa [reachBytes] using this
  clear hA0 hval0
  simp only [List.append_nil] at hW'
  refine (walk W a0 w0 a1 w1 a2 w2).mono fun e W' ⟨he, bel⟩ => ?_
  subst he
  exact ⟨_, rfl, _, _, _, [], _, [], hW', trodAll_mk1 (shut_bool Try.underlying4 _), (trodAll_cons_mk (Below.trod laidOut (by kernel_rfl) (of_decide_eq_true (by kernel_rfl)) k0 bel lt0) (trodAll_cons_mk (Below.trod laidOut (by kernel_rfl) (of_decide_eq_true (by kernel_rfl)) k1 bel lt1) (trodAll_cons_mk (Below.trod laidOut (by kernel_rfl) (of_decide_eq_true (by kernel_rfl)) k2 bel lt2) trodAll_mk0))), rfl, bel.frame _, fun h => by cases h⟩

theorem over : Rows.sumDigitsRow.holds Try.pinned (OpenSpec.ofChange Rows.sumDigitsSpec) :=
  OpenClaim.holds_of_wide 6 Try.f6 rfl rfl rfl rfl rfl rfl rfl ⟨rfl, rfl, rfl, rfl, rfl⟩ rfl rfl rfl rfl rfl (by kernel_rfl) Try.func6 (by kernel_rfl)
    (of_decide_eq_true (by kernel_rfl)) (by unfold Func.isWrapper; first | (rw [if_pos (by decide +kernel)]; kernel_rfl) | (rw [if_neg (by decide +kernel)]; exact ⟨rfl, rfl⟩))
    (fun os started H enc _ => lifted os started H enc)

/-- The statement. -/
theorem proved : Rows.SumDigitsSaid := over
#print axioms proved
end Go.Proofs.Ytgmcdkkjemjneaa.sumDigits
