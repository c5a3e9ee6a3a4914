/- SumRows: whatever the input of at most 1048576 values and letters, the law returns true, and each argument reads as it did before. The one condition is the form's own bound on the input's size. -/
import Derived.Test.YtgmcdkkjemjneaaRows
import Derived.WalkKit
import Derived.ProofKit
import Derived.OpenShut
import Derived.ShutString
import Derived.SizedLaws
import Derived.Below
import Derived.Deep.QuietTactic
import Derived.BigQuiet
import Derived.RegionTactic
import Derived.BigRegion
import Derived.Outline
import Derived.Deep.RegionLaw
import Derived.Deep.RegionWith
import Derived.Deep.RegionHeld3
import Derived.Deep.DeepCutAuto
import Derived.Deep.CutBlock
import Derived.Deep.LoopGhost
import Derived.Lib.Hide
import Derived.WalkSpells
import Derived.WalkLawsBesides
import Derived.Deep.CondSized
import Derived.JoinedCond
import Derived.Test.YtgmcdkkjemjneaaFrRows
import Derived.Test.YtgmcdkkjemjneaaSmAll
namespace Go.Proofs.Ytgmcdkkjemjneaa.sumRowsUpto
open Go.ChangeShapes Go.WideShapes Go.ChangeAt Go.RowKit
open Go.ChangeMaps (open_string shut_string)
set_option linter.unusedVariables false

theorem own : ownKnob Try.prog.godebug = none := by kernel_rfl
theorem laidOut : laidOutB Try.prog = true := by kernel_rfl

theorem range_keep {w w' : World} {I : Nat} {l : List Value} (h : w.rangeAt I 0 l) (hI : I < w.heap.size) (hb : Below w.heap.size w w') : w'.rangeAt I 0 l := fun j v hj => by
  rw [hb.cell (p := ⟨I, 0 + j, none⟩) hI]
  exact h j v hj
theorem rdb_drew {w : World} {A : Option Addr} {n C : Nat} {l : List Int} (h : Sm.RdB w A n C l) : Sm.RdB w.drew A n C l := ⟨h.len, h.cap, h.max, h.big, h.none, h.byte, h.cell⟩
theorem below_drew {B : Nat} {a w : World} (h : Below B a w) : Below B a w.drew := ⟨h.os, h.tape, h.output, h.size, h.block⟩

set_option maxRecDepth 100000 in
set_option maxHeartbeats 4000000 in
theorem walk (w : World) (a0 : Option Addr) (len0 cap0 : Nat) (r0 : List (List Int)) (w0 : Fr.IsRows w a0 len0 cap0 r0) (t0 : len0 + (r0.map List.length).sum ≤ 1048576) :
    Calls Try.prog 3 #[.slice a0 len0 cap0] w fun e w' => e = .returned (.bool true) ∧ Below w.heap.size w w' := by
  obtain ⟨b, off, A, L, C, hR, hrl⟩ := Sm.rdr_of w0
  have hT := Sm.rowsTo_len r0
  rw [hrl] at hT
  obtain ⟨T, hTd⟩ : ∃ T, T = (r0.map List.length).sum := ⟨_, rfl⟩
  rw [← hTd] at hT t0
  generalize (fun i => r0.getD i []) = lf at *
  have HR := Lib.hid hR
  have HT := Lib.hid hT
  have hlen : len0 ≤ 1048576 := by omega
  have hT2 : T ≤ 1048576 := by omega
  have HRg : Hid (∀ j, j < T → 0 ≤ (Sm.rowsTo lf len0).getD j 0 ∧ (Sm.rowsTo lf len0).getD j 0 ≤ 255) := Lib.hid (fun j hj => Sm.rowsTo_range lf len0 (fun i hi j hj => (hR.row i hi).byte j (by have := (hR.row i hi).len; omega)) len0 (Nat.le_refl _) j (by omega))
  have HK := Lib.hid (Sm.known_any w)
  clear w0 hR hT hrl hTd t0
  go_enter Try.func3, Try.ntmps3
  go_wp2_with fail
  refine HK.out.mono ?_
  rintro e w1 ⟨rfl, hb⟩
  have HB1 := Lib.hid hb
  have hsz1 := hb.size
  have HR1 := Lib.hid (HR.out.below hb)
  clear hb HK HR
  have HAl := Lib.hid (Sm.all_any a0 len0 cap0 b off A L C lf w1 HR1.out hlen T HT.out hT2)
  go_wp2_with fail
  refine HAl.out.mono ?_
  rintro e w2 ⟨v2, rfl, ho2, hb2⟩
  obtain ⟨Ab, Cb, rfl, hrd2⟩ := Sm.RdB.of_own' ho2 (by omega) HRg.out
  have HD2 := Lib.hid hrd2
  have HR2 := Lib.hid (HR1.out.below hb2)
  have HB2 := Lib.hid (HB1.out.trans (hb2.mono hsz1))
  have hsz2 := HB2.out.size
  clear ho2 hb2 HAl HB1 HR1 hsz1
  by_cases hbig : 16384 < T
  · have hd : decide ((16384 : Int) < (T : Int)) = true := by simp; omega
    go_wp2_with fail
    go_ret
    exact ⟨rfl, HB2.out⟩
  · have hd : decide ((16384 : Int) < (T : Int)) = false := by simp; omega
    have HOf := Lib.hid (Sm.of_any a0 b off len0 cap0 A L C lf w2 HR2.out.hcap HR2.out.hmax (by omega) HR2.out.hA HR2.out.hb HR2.out.cell (fun i hi => (HR2.out.row i hi).rowOk w2.heap.size b (by have := HR2.out.hb (by omega); omega) (HR2.out.hb (by omega)) (fun x hx h0 => by
      obtain ⟨h1, -⟩ := (HR2.out.row i hi).cell x hx
      have := h1 h0
      omega)) (fun k hk => by have := Sm.rowsTo_mono lf k len0 hk; have := HT.out; omega))
    have hz1 := Sm.zero32
    have HZs : Hid ((Sm.bv (List.replicate 32 0)).toArray.size = 32) := Lib.hid (by simp [Sm.bv])
    generalize (Sm.bv (List.replicate 32 0)).toArray = Z1 at *
    have hq := fun W => Sm.sha_eq (Sm.rowsTo lf len0) W
    have HSn : Hid ((Sm.bv (Sm.sha (Sm.rowsTo lf len0))).length = 32) := Lib.hid (by rw [Sm.bv, List.length_map, Sm.sha_len])
    have HOne := Lib.hid (all_oneCell_toArray (Sm.bv_one (Sm.sha (Sm.rowsTo lf len0))))
    have HRo := Lib.hid (fun W hW => Sm.rof_any Ab T Cb (Sm.rowsTo lf len0) W hW (by omega))
    generalize hDL : Sm.bv (Sm.sha (Sm.rowsTo lf len0)) = DL at *
    clear hDL
    have HSz : Hid ((Try.prog.info? 27).map (·.size) = some DL.length) := Lib.hid (by rw [HSn.out]; kernel_rfl)
    have HSz2 : Hid ((Try.prog.info? 27).map (·.size) = some DL.toArray.size) := Lib.hid (by rw [List.size_toArray]; exact HSz.out)
    go_wp2_with fail
    refine HOf.out.mono ?_
    rintro e w3 ⟨rfl, hb3⟩
    have HB3 := Lib.hid (HB2.out.trans (hb3.mono hsz2))
    have HR3 := Lib.hid (HR2.out.below hb3)
    have HD3 := Lib.hid (HD2.out.below hb3)
    have hsz3 := HB3.out.size
    clear hb3 HOf HB2 HR2 HD2 hsz2
    go_upto_region 7 with (refine wpList_store_mid rfl _ _ _ rfl w3.heap.size 0 DL.toArray rfl rfl (Sm.there_new w3 Z1 _ _ (by rw [List.size_toArray, HSn.out, HZs.out]; exact Nat.le_refl _)) HSz2.out HOne.out ?_)
    have hbI := Sm.below_setCells w3.heap.size (Nat.le_refl _) DL 0 _ ((Below.refl w3.heap.size w3).alloc (Nat.le_refl _) (.cells Z1 27))
    have HB4 := Lib.hid (HB3.out.trans (hbI.mono hsz3))
    have HR4 := Lib.hid (HR3.out.below hbI)
    have HD4 := Lib.hid (HD3.out.below hbI)
    have HI4 : Hid (((w3.alloc (.cells Z1 27)).setCells w3.heap.size 0 DL).rangeAt w3.heap.size 0 DL) := Lib.hid (fun j v hj => by
      have hr := Sm.row_new w3 Z1 27
      rw [HZs.out] at hr
      have hl := (List.getElem?_eq_some_iff.1 hj).1
      rw [HSn.out] at hl
      rw [Nat.zero_add, (Sm.row_lay hr 0 DL).cell hl, Sm.layF, HSn.out, if_pos (by omega), Nat.sub_zero, ← hj]
      simp [List.getD, HSn.out, hl])
    have hI4 : w3.heap.size < ((w3.alloc (.cells Z1 27)).setCells w3.heap.size 0 DL).heap.size := by
      have hr := Sm.row_new w3 Z1 27
      exact (Sm.row_lay hr 0 DL).lt
    have hsz4 := HB4.out.size
    change Code.wp _ _ _ _ ((w3.alloc (.cells Z1 27)).setCells w3.heap.size 0 DL)
    clear hbI HB3 HR3 HD3 hz1 HZs HOne HSz2 hsz3
    generalize (w3.alloc (.cells Z1 27)).setCells w3.heap.size 0 DL = w4 at *
    generalize w3.heap.size = I at *
    have HD4d := Lib.hid (rdb_drew HD4.out)
    have HR4d : Hid (Sm.RdR w4.drew a0 len0 cap0 b off A L C lf) := Lib.hid ⟨HR4.out.hcap, HR4.out.hmax, HR4.out.hA, HR4.out.hb, HR4.out.cell, fun i hi => rdb_drew (HR4.out.row i hi)⟩
    have HB4d := Lib.hid (below_drew HB4.out)
    have HI4d : Hid (w4.drew.rangeAt I 0 DL) := Lib.hid HI4.out
    have hI4d : I < w4.drew.heap.size := hI4
    have hsz4d : w.heap.size ≤ w4.drew.heap.size := hsz4
    have HC4 := Lib.hid (Sm.conv_rd HD4d.out)
    clear HD4 HR4 HB4 HI4 hI4 hsz4
    refine wp_region_noPanic ?_
    refine wp_region_held_drew (S := (fun wS => wS.rangeAt I 0 DL ∧ (convert 24 9 (.slice Ab T Cb)).run Try.prog wS = .ok (.string (Sm.sb (Sm.rowsTo lf len0))) wS)) (by kernel_rfl) ?_ (fun hHeld => ?_)
    · ((try dsimp only); exact ⟨HI4d.out, HC4.out⟩)
    refine' wpAnyH_take (i := 0) (oi := { dst := some 14, op := Op.load 27 (Operand.tmp 4), type := 27, pos := "law.go:43", after := #[], guard := none }) (v := _) rfl (by kernel_rfl) (by kernel_rfl) (by kernel_rfl) (fun _ _ _ h => h) (yieldsIf_load_mid (by rfl) _ _ rfl _ _ rfl DL _ (fun w hSw => hSw.1) Try.underlying27 rfl HSz.out) (by assumption) ?_
    (try simp only [Act.put, List.setIfInBounds_toArray, List.set_cons_zero, List.set_cons_succ])
    refine wpAnyH_take (i := 1) (oi := { dst := some 15, op := Op.move (Operand.tmp 3), type := 24, pos := "law.go:43", after := #[], guard := none }) (v := ?_) rfl (by kernel_rfl) (by kernel_rfl) (by kernel_rfl) (fun _ _ _ h => h) (Or.inl ⟨by rfl, ?_⟩) (by assumption) ?_
    rotate_left 1
    · ((intro w hSw; (try dsimp only at hSw); go_simp) <;> with_reducible rfl)
    (try simp only [Act.put, List.setIfInBounds_toArray, List.set_cons_zero, List.set_cons_succ])
    refine wpAnyH_ready (rs := [2]) (by kernel_rfl) (by simp) ?_
    refine AllReadyH.cons (o := { dst := some 16, op := Op.call { callee := Callee.value (Operand.func 10), args := #[Operand.tmp 15], argTypes := #[24] }, type := 27, pos := "law.go:43", after := #[{ on := 1, ground := Ground.data }], guard := none }) rfl (fun K hK => ?_) ?_
    · go_simp
      refine (HRo.out _ HD4d.out).mono ?_
      rintro e wA ⟨rfl, hbA⟩
      have HBA := Lib.hid (HB4d.out.trans (hbA.mono hsz4d))
      have HIA := Lib.hid (range_keep HI4d.out hI4d hbA)
      have HDA := Lib.hid (HD4d.out.below hbA)
      have HCA := Lib.hid (Sm.conv_rd HDA.out)
      have HRA := Lib.hid (HR4d.out.below hbA)
      have hsA := hbA.size
      have hszA := HBA.out.size
      clear hbA
      (try go_wp2_with fail)
      refine hK.out _ _ ?_ (fun hNew => ?_)
      · ((try dsimp only); first | exact ⟨HIB.out, HCB.out⟩ | exact ⟨HIA.out, HCA.out⟩)
      clear hK K hHeld
      have hHeld := hNew
      clear hNew
      (try simp only [Act.put, List.setIfInBounds_toArray, List.set_cons_zero, List.set_cons_succ])
      refine wpAnyH_take (i := 3) (oi := { dst := some 17, op := Op.binOp BinOp.eql 27 (Operand.tmp 14) (Operand.tmp 16) 27, type := 4, pos := "law.go:43", after := #[{ on := 0, ground := Ground.data }, { on := 2, ground := Ground.data }], guard := none }) (v := ?_) rfl (by kernel_rfl) (by kernel_rfl) (by kernel_rfl) (fun _ _ _ h => h) (Or.inl ⟨by rfl, ?_⟩) (by assumption) ?_
      rotate_left 1
      · ((intro w hSw; (try dsimp only at hSw); go_simp) <;> with_reducible rfl)
      (try simp only [Act.put, List.setIfInBounds_toArray, List.set_cons_zero, List.set_cons_succ])
      refine wpAnyH_take (i := 4) (oi := { dst := some 18, op := Op.move (Operand.tmp 17), type := 4, pos := "law.go:43", after := #[{ on := 3, ground := Ground.data }, { on := 2, ground := Ground.chain }], guard := none }) (v := ?_) rfl (by kernel_rfl) (by kernel_rfl) (by kernel_rfl) (fun _ _ _ h => h) (Or.inl ⟨by rfl, ?_⟩) (by assumption) ?_
      rotate_left 1
      · ((intro w hSw; (try dsimp only at hSw); go_simp) <;> with_reducible rfl)
      (try simp only [Act.put, List.setIfInBounds_toArray, List.set_cons_zero, List.set_cons_succ])
      refine wpAnyH_take (i := 5) (oi := { dst := some 19, op := Op.move (Operand.tmp 0), type := 22, pos := "law.go:43", after := #[{ on := 4, ground := Ground.guard }], guard := some (4, true) }) (v := ?_) rfl (by kernel_rfl) (by kernel_rfl) (by kernel_rfl) (fun _ _ _ h => h) (Or.inl ⟨by rfl, ?_⟩) (by assumption) ?_
      rotate_left 1
      · ((intro w hSw; (try dsimp only at hSw); go_simp) <;> with_reducible rfl)
      (try simp only [Act.put, List.setIfInBounds_toArray, List.set_cons_zero, List.set_cons_succ])
      refine wpAnyH_take (i := 8) (oi := { dst := some 22, op := Op.move (Operand.tmp 3), type := 24, pos := "law.go:43", after := #[{ on := 4, ground := Ground.guard }], guard := some (4, true) }) (v := ?_) rfl (by kernel_rfl) (by kernel_rfl) (by kernel_rfl) (fun _ _ _ h => h) (Or.inl ⟨by rfl, ?_⟩) (by assumption) ?_
      rotate_left 1
      · ((intro w hSw; (try dsimp only at hSw); go_simp) <;> with_reducible rfl)
      (try simp only [Act.put, List.setIfInBounds_toArray, List.set_cons_zero, List.set_cons_succ])
      refine wpAnyH_take (i := 9) (oi := { dst := some 23, op := Op.convert 24 9 (Operand.tmp 22), type := 9, pos := "law.go:43", after := #[{ on := 8, ground := Ground.data }, { on := 4, ground := Ground.guard }], guard := some (4, true) }) (v := ?_) rfl (by kernel_rfl) (by kernel_rfl) (by kernel_rfl) (fun _ _ _ h => h) (Or.inl ⟨by rfl, ?_⟩) (by assumption) ?_
      rotate_left 1
      · ((intro w hSw; (try dsimp only at hSw); go_simp) <;> with_reducible rfl)
      (try simp only [Act.put, List.setIfInBounds_toArray, List.set_cons_zero, List.set_cons_succ])
      refine wpAnyH_ready (rs := [6]) (by kernel_rfl) (by simp) ?_
      refine AllReadyH.cons (o := { dst := some 20, op := Op.call { callee := Callee.value (Operand.func 8), args := #[Operand.tmp 19], argTypes := #[22] }, type := 24, pos := "law.go:43", after := #[{ on := 5, ground := Ground.data }, { on := 4, ground := Ground.chain }, { on := 4, ground := Ground.guard }], guard := some (4, true) }) rfl (fun K hK => ?_) ?_
      · go_simp
        refine (Sm.all_any a0 len0 cap0 b off A L C lf _ HRA.out hlen T HT.out hT2).mono ?_
        rintro e wB ⟨vB, rfl, hoB, hbB⟩
        obtain ⟨AB, CB, rfl, hrdB⟩ := Sm.RdB.of_own' hoB (by omega) HRg.out
        have HBB := Lib.hid (HBA.out.trans (hbB.mono hszA))
        have HIB := Lib.hid (range_keep HIA.out (by omega) hbB)
        have HCB := Lib.hid (Sm.conv_rd (HDA.out.below hbB))
        have cvB := Sm.conv_rd hrdB
        clear hbB hoB hrdB
        (try go_wp2_with fail)
        refine hK.out _ _ ?_ (fun hNew => ?_)
        · ((try dsimp only); first | exact ⟨HIB.out, HCB.out⟩ | exact ⟨HIA.out, HCA.out⟩)
        clear hK K hHeld
        have hHeld := hNew
        clear hNew
        (try simp only [Act.put, List.setIfInBounds_toArray, List.set_cons_zero, List.set_cons_succ])
        refine wpAnyH_ready (rs := [7]) (by kernel_rfl) (by simp) ?_
        refine AllReadyH.cons (o := { dst := some 21, op := Op.convert 24 9 (Operand.tmp 20), type := 9, pos := "law.go:43", after := #[{ on := 6, ground := Ground.data }, { on := 4, ground := Ground.guard }], guard := some (4, true) }) rfl (fun K hK => ?_) ?_
        · go_simp
          refine hK.out _ _ ?_ (fun hNew => ?_)
          · ((try dsimp only); first | exact ⟨HIB.out, HCB.out⟩ | exact ⟨HIA.out, HCA.out⟩)
          clear hK K hHeld
          have hHeld := hNew
          clear hNew
          (try simp only [Act.put, List.setIfInBounds_toArray, List.set_cons_zero, List.set_cons_succ])
          refine wpAnyH_take (i := 10) (oi := { dst := some 24, op := Op.binOp BinOp.eql 9 (Operand.tmp 21) (Operand.tmp 23) 9, type := 4, pos := "law.go:43", after := #[{ on := 7, ground := Ground.data }, { on := 9, ground := Ground.data }, { on := 4, ground := Ground.guard }], guard := some (4, true) }) (v := ?_) rfl (by kernel_rfl) (by kernel_rfl) (by kernel_rfl) (fun _ _ _ h => h) (Or.inl ⟨by rfl, ?_⟩) (by assumption) ?_
          rotate_left 1
          · ((intro w hSw; (try dsimp only at hSw); go_simp) <;> with_reducible rfl)
          (try simp only [Act.put, List.setIfInBounds_toArray, List.set_cons_zero, List.set_cons_succ])
          refine wpAnyH_take (i := 11) (oi := { dst := some 25, op := Op.pick (Operand.tmp 18) (Operand.tmp 24) (Operand.const (Value.bool false)), type := 4, pos := "law.go:43", after := #[{ on := 4, ground := Ground.data }, { on := 10, ground := Ground.data }], guard := none }) (v := ?_) rfl (by kernel_rfl) (by kernel_rfl) (by kernel_rfl) (fun _ _ _ h => h) (Or.inl ⟨by rfl, ?_⟩) (by assumption) ?_
          rotate_left 1
          · ((intro w hSw; (try dsimp only at hSw); go_simp) <;> with_reducible rfl)
          (try simp only [Act.put, List.setIfInBounds_toArray, List.set_cons_zero, List.set_cons_succ])
          refine wpAnyH_take (i := 12) (oi := { dst := some 2, op := Op.assign (Operand.tmp 25), type := 4, pos := "law.go:43", after := #[{ on := 11, ground := Ground.data }, { on := 6, ground := Ground.chain }, { on := 0, ground := Ground.phase }, { on := 1, ground := Ground.phase }, { on := 2, ground := Ground.phase }, { on := 3, ground := Ground.phase }, { on := 4, ground := Ground.phase }, { on := 5, ground := Ground.phase }, { on := 6, ground := Ground.phase }, { on := 7, ground := Ground.phase }, { on := 8, ground := Ground.phase }, { on := 9, ground := Ground.phase }, { on := 10, ground := Ground.phase }, { on := 11, ground := Ground.phase }], guard := none }) (v := ?_) rfl (by kernel_rfl) (by kernel_rfl) (by kernel_rfl) (fun _ _ _ h => h) (Or.inl ⟨by rfl, ?_⟩) (by assumption) ?_
          rotate_left 1
          · ((intro w hSw; (try dsimp only at hSw); go_simp) <;> with_reducible rfl)
          (try simp only [Act.put, List.setIfInBounds_toArray, List.set_cons_zero, List.set_cons_succ])
          refine wpAnyH_done (by kernel_rfl) ?_ _
          refine NoPanic.normal ?_
          go_wp2_with fail
          go_ret
          exact ⟨rfl, HBB.out⟩
        exact AllReadyH.nil
      exact AllReadyH.nil
    exact AllReadyH.nil

set_option maxRecDepth 100000 in
theorem lifted (os : Os) (started : os.Started) (H : Type) (enc : TypeId × Value → H) (F : Stop.Interp) :
    ReturnsInHanded {} Try.checked os 3 .any ((Rows.OpenSpec.upto Rows.sumRowsSpec).pre6 enc Try.prog Try.f3 Rows.sumRowsUptoRow.domain false) (((Rows.OpenSpec.upto Rows.sumRowsSpec).at F).post enc Try.prog Try.f3 false true false false) := by
  refine returnsInHanded_of_cond_sized (C := Try.checked) (s := (Rows.OpenSpec.upto Rows.sumRowsSpec)) (k := Rows.uptoSmall) rfl own started (by kernel_rfl) Try.func3
    (OpenSpec.witness (enc := enc) (C := Try.checked) (s := (Rows.OpenSpec.upto Rows.sumRowsSpec)) (k := Rows.uptoSmall) rfl false ⟨#[], #[.slice none 0 0], []⟩ 8 (by kernel_rfl) (by kernel_rfl) (by kernel_rfl)
      (x := ([.nil], [], [])) (by kernel_rfl) rfl (by kernel_rfl)) ?_
  intro W base args ds gs before hval0 hW _ hk0 hsz0 _
  have hsz : (DataW.weightsEach Try.prog (Try.f3.params.toList ++ (Rows.OpenSpec.upto Rows.sumRowsSpec).bare.plain.varTypes Try.prog) (ds ++ gs)).all (· ≤ reachBytes) = true := hsz0
  clear hsz0
  have hval : ∀ (j : Nat) t v, Try.f3.params[j]? = some t → args[j]? = some v → Value.okWide Try.prog W .any base t v := hval0
  have hW' := hW
  obtain ⟨p, q, hA0, hV, rfl, _, _⟩ := hW
  have hA : DataW.TrodAll enc Try.prog W 0 (fun _ => true) true Try.f3.params.toList args.toList ds p := hA0
  rw [Try.params3] at hA hval hsz
  obtain ⟨v0, vs0, d0, ds0, p0, q0, hargs, rfl, rfl, h0, r0⟩ := trodAll_cons hA
  obtain ⟨rfl, rfl, rfl⟩ := trodAll_nil r0
  obtain rfl : args = #[v0] := by cases args; simp_all
  obtain ⟨rfl, rfl⟩ := trodVars_none hV
  have hk : Rows.uptoBulkAll ([d0] ++ []) ≤ 1048576 := of_decide_eq_true hk0
  simp only [List.append_nil, Rows.uptoBulkAll] at hk
  have bulk0 : Rows.uptoBulk d0 ≤ 1048576 := by omega
  have k0 := h0
  have lt0 : ∀ x ∈ p0, x.block < W.heap.size := by obtain ⟨m, hm⟩ := k0; exact DataW.trod_lt m _ _ _ hm
  obtain ⟨a0, len0, cap0, rfl⟩ := okWide_slice Try.underlying22 (hval 0 22 v0 rfl rfl)
  obtain ⟨r0, w0, t0'⟩ := Fr.isRows_of Try.underlying22 Try.underlying24 Try.underlying5 (by kernel_rfl) (by kernel_rfl) (by kernel_rfl) (by kernel_rfl) hsz (j := 0) rfl rfl h0
  have t0 := Nat.le_trans t0' bulk0
  clear hA0 hval0
  simp only [List.append_nil] at hW'
  refine (walk W a0 len0 cap0 r0 w0 t0).mono fun e W' ⟨he, bel⟩ => ?_
  subst he
  exact ⟨_, rfl, _, _, _, [], _, [], hW', trodAll_mk1 (shut_bool Try.underlying4 _), (trodAll_cons_mk (Below.trod laidOut (by kernel_rfl) (of_decide_eq_true (by kernel_rfl)) k0 bel lt0) trodAll_mk0), rfl, bel.frame _, fun h => by cases h⟩

/-- The statement. -/
theorem proved : Rows.SumRowsUptoSaid :=
  OpenClaim.holds_of_cond 3 Try.f3 rfl rfl rfl rfl rfl rfl rfl ⟨rfl, rfl, rfl, rfl, rfl⟩ rfl rfl rfl rfl rfl (by kernel_rfl) Try.func3 (by kernel_rfl)
    (of_decide_eq_true (by kernel_rfl)) (by unfold Func.isWrapper; first | (rw [if_pos (by decide +kernel)]; kernel_rfl) | (rw [if_neg (by decide +kernel)]; exact ⟨rfl, rfl⟩))
    (fun os started H enc _ F => lifted os started H enc F)
#print axioms proved
end Go.Proofs.Ytgmcdkkjemjneaa.sumRowsUpto
