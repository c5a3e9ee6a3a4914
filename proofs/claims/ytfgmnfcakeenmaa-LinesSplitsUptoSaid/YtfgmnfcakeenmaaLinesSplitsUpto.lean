/- LinesSplits: whatever the input of at most 1048576 values and letters, the law returns true, and each argument reads as it did before. The one condition is the form's own bound on the input's size. -/
import Derived.Test.YtfgmnfcakeenmaaRows
import Derived.WalkKit
import Derived.ProofKit
import Derived.OpenShut
import Derived.ShutString
import Derived.SizedLaws
import Derived.Below
import Derived.Deep.QuietTactic
import Derived.BigQuiet
import Derived.RegionTactic
import Derived.BigRegion
import Derived.Outline
import Derived.Deep.RegionLaw
import Derived.Deep.RegionWith
import Derived.Deep.RegionHeld3
import Derived.Deep.DeepCutAuto
import Derived.Deep.CutBlock
import Derived.Deep.LoopGhost
import Derived.Lib.Hide
import Derived.WalkSpells
import Derived.WalkLawsBesides
import Derived.Deep.CondSized
import Derived.JoinedCond
import Derived.Test.YtfgmnfcakeenmaaFrInts
import Derived.Test.YtfgmnfcakeenmaaFrStrs
import Derived.Test.YtfgmnfcakeenmaaLnFew
import Derived.Test.YtfgmnfcakeenmaaLnBytesApp
import Derived.Test.YtfgmnfcakeenmaaLnSplitR
import Derived.Test.YtfgmnfcakeenmaaLnJoinStr
import Derived.Test.YtfgmnfcakeenmaaLnStore
namespace Go.Proofs.Ytfgmnfcakeenmaa.linesSplitsUpto
open Go.ChangeShapes Go.WideShapes Go.ChangeAt Go.RowKit
open Go.ChangeMaps (open_string shut_string)
set_option linter.unusedVariables false

theorem own : ownKnob Try.prog.godebug = none := by kernel_rfl
theorem laidOut : laidOutB Try.prog = true := by kernel_rfl


set_option maxRecDepth 100000 in
set_option maxHeartbeats 2000000 in
theorem walk (w : World) (a0 : Option Addr) (len0 cap0 : Nat) (z0 : List Int) (w0 : Fr.IsInts .u8 1 w a0 len0 cap0 z0) (a1 : Option Addr) (len1 cap1 : Nat) (s1 : List ByteArray) (w1 : Fr.IsStrs w a1 len1 cap1 s1) :
    Calls Try.prog 5 #[.slice a0 len0 cap0, .slice a1 len1 cap1] w fun e w' => e = .returned (.bool true) ∧ Below w.heap.size w w' := by
  obtain ⟨r0, q0⟩ := Ln.rd_of_ints w0
  obtain ⟨r1, q1⟩ := Ln.rd_of_strs w1
  have HK := Lib.hid (Ln.known_any w)
  have H0 := Lib.hid r0
  have H1 := Lib.hid r1
  have Q0 := Lib.hid q0
  have Q1 := Lib.hid q1
  have c0 := r0.hcap
  have g0 := r0.hbig
  have L0 := Lib.hid (show z0.length = len0 by have := r0.hlen; simpa [Ln.bv] using this)
  clear r0 r1 q0 q1 w0 w1
  by_cases hbig : 8192 < len0
  · have hd : decide ((8192 : Int) < (len0 : Int)) = true := by simp; omega
    go_enter Try.func5, Try.ntmps5
    go_wp2_with fail
    refine HK.out.mono ?_
    rintro e w1 ⟨rfl, hb⟩
    have HB1 := Lib.hid hb
    clear hb HK
    go_wp2
    go_ret
    exact ⟨rfl, HB1.out⟩
  have hd : decide ((8192 : Int) < (len0 : Int)) = false := by simp; omega
  have hl0 : len0 ≤ 8192 := by omega
  clear hbig
  go_enter Try.func5, Try.ntmps5
  go_wp2_with fail
  refine HK.out.mono ?_
  rintro e w1 ⟨rfl, hb⟩
  have HB1 := Lib.hid hb
  have HF := Lib.hid (Ln.few_sum _ a1 len1 cap1 s1 w1 (H1.out.below hb) Q1.out)
  clear hb HK
  go_wp2_with fail
  refine HF.out.mono ?_
  rintro e w2 ⟨f, rfl, hf, hb2⟩
  have HB2 := Lib.hid (HB1.out.trans (hb2.mono HB1.out.size))
  cases f
  · clear hf HF hb2
    go_wp2
    go_ret
    exact ⟨rfl, HB2.out⟩
  obtain ⟨hl1, hz1⟩ := hf rfl
  have hsz2 := HB2.out.size
  clear hf HF HB1 hb2
  have HX1 := Lib.hid ((Below.refl w2.heap.size w2).alloc (Nat.le_refl _) (.cells #[] 5))
  have HE1 := Lib.hid (Ln.own_empty_u w2 w2.heap.size (Nat.le_refl _))
  have HR0 := Lib.hid (H0.out.below (HB2.out.trans (HX1.out.mono hsz2)))
  go_wp2_with (at_builtin; refine Ln.wpList_append_bytes _ rfl _ _ rfl w2.heap.size _ 0 [] rfl HE1.out _ a0 len0 cap0 z0 rfl HR0.out len0 (Nat.zero_add _) z0 rfl (by omega) HX1.out.size ?_)
  intro A4 C4 w4 ho4 hb4 hk4
  have hx4 := HX1.out.trans hb4
  have HB4 := Lib.hid (HB2.out.trans (hx4.mono hsz2))
  have HO4 := Lib.hid ho4
  have hsz4 := HB4.out.size
  have HSP := Lib.hid (Ln.split_any A4 len0 C4 z0 w4 (Ln.Rd.of_own ho4 (by omega)).1 Q0.out (by omega))
  clear ho4 hb4 hk4 HX1 HE1 HR0 hx4
  go_wp2_with fail
  refine HSP.out.mono ?_
  rintro e w5 ⟨A5, C5, rfl, ho5, hb5⟩
  have HB5 := Lib.hid (HB4.out.trans (hb5.mono hsz4))
  have HO5 := Lib.hid ho5
  have HO45 := Lib.hid (Ln.own_keep HO4.out hb5)
  clear ho5 hb5 HSP
  go_wp2
  have hg4 := Lib.hid (fun g (h : A4 = some ⟨g, 0, none⟩) => (HO45.out.lt g (by rw [h]; rfl)).1)
  have hg5 := Lib.hid (fun g (h : A4 = some ⟨g, 0, none⟩) => show g < w4.heap.size from (HO4.out.lt g (by rw [h]; rfl)).2)
  clear HO4
  go_loopw [7] (fun s7 wr => ∃ i : Nat, s7 = .int .i64 i ∧ i ≤ len0 ∧ Hid (∃ xs : List Value, wr.ownsRow w2.heap.size 5 1 (.slice A4 len0 C4) len0 xs) ∧ Hid (wr.ownsRow w4.heap.size 9 1 (.slice A5 (Ln.splA [] z0).length C5) (Ln.splA [] z0).length (Ln.sv ((Ln.splA [] z0).map Ln.sb))) ∧ Hid (Below w.heap.size w wr)) (fun s7 _ => len0 - (intOf s7).toNat)
  case atStart => exact ⟨0, rfl, Nat.zero_le _, Lib.hid ⟨_, HO45.out⟩, HO5, HB5⟩
  case round =>
    clear HO45 HO5 HB5
    obtain ⟨i, rfl, hi, HO4, HO5, HB5⟩ := hrel
    by_cases hlt : i < len0
    · have hd1 : decide (i < len0) = true := by simp; omega
      obtain ⟨xs, ho⟩ := HO4.out
      obtain ⟨g, rfl, hgb, ⟨u0, hu0⟩, hfr, hst⟩ := Ln.own_store ho i hlt
      clear ho
      have hlg := hg5.out g rfl
      have hsz := Lib.hid (fun u => ownsRow_setCell_below HO5.out (a := ⟨g, i, none⟩) hlg u)
      have hbel := Lib.hid (fun u => HB5.out.setCell (p := ⟨g, i, none⟩) (Nat.le_trans hsz2 hgb) u)
      have HST := Lib.hid hst
      clear hst HO4 HO5
      go_wp2
      go_roundw
      case rel => exact ⟨i + 1, by go_num, by omega, HST.out _, hsz.out _, hbel.out _⟩
      case measure => simp [intOf]; omega
    · have hd1 : decide (i < len0) = false := by simp; omega
      have HBr := Lib.hid HB5.out.drew
      have hszr := HBr.out.size
      have HRr := Lib.hid ((H0.out.below HBr.out).more hszr)
      have HXr := Lib.hid HO5.out.drew
      have hln : (Ln.splA [] z0).length ≤ 140737488355328 := by have h1 := Ln.splA_len z0 []; have h2 := L0.out; simp at h1; omega
      have HIX := Lib.hid (Ln.ints_spl z0 Q0.out)
      have hsx : Ln.sz ((Ln.splA [] z0).map Ln.sb) ≤ 140737488355328 := by rw [Ln.sz_ints, HIX.out, L0.out]; omega
      have hsl : Ln.sz s1 ≤ 140737488355328 := by omega
      have HSa := Lib.hid (Ln.conv_rd HRr.out)
      have hq1 : ((Ln.sb z0).toList == (Ln.sb z0).toList) = true := by simp
      have hq2 : ((Ln.sb (Ln.ints s1)).toList == (Ln.sb (Ln.ints s1)).toList) = true := by simp
      clear HO4 HO5 HB5
      go_wp2
      refine wp_region_noPanic ?_
      refine wp_region_held_drew (S := (fun wS => (convert 38 9 (.slice a0 len0 cap0)).run Try.prog wS = .ok (.string (Ln.sb z0)) wS)) (by kernel_rfl) ?_ (fun hHeld => ?_)
      · ((try dsimp only); exact HSa.out)
      refine wpAnyH_take (i := 0) (oi := { dst := some 32, op := Op.move (Operand.tmp 6), type := 22, pos := "law.go:88", after := #[], guard := none }) (v := ?_) rfl (by kernel_rfl) (by kernel_rfl) (by kernel_rfl) (fun _ _ _ h => h) (Or.inl ⟨by rfl, ?_⟩) (by assumption) ?_
      rotate_left 1
      · ((intro w hSw; (try dsimp only at hSw); go_simp) <;> with_reducible rfl)
      (try simp only [Act.put, List.setIfInBounds_toArray, List.set_cons_zero, List.set_cons_succ])
      refine wpAnyH_take (i := 1) (oi := { dst := some 33, op := Op.move (Operand.tmp 0), type := 38, pos := "law.go:88", after := #[], guard := none }) (v := ?_) rfl (by kernel_rfl) (by kernel_rfl) (by kernel_rfl) (fun _ _ _ h => h) (Or.inl ⟨by rfl, ?_⟩) (by assumption) ?_
      rotate_left 1
      · ((intro w hSw; (try dsimp only at hSw); go_simp) <;> with_reducible rfl)
      (try simp only [Act.put, List.setIfInBounds_toArray, List.set_cons_zero, List.set_cons_succ])
      refine wpAnyH_ready (rs := [2]) (by kernel_rfl) (by simp) ?_
      refine AllReadyH.cons (o := { dst := some 34, op := Op.call { callee := Callee.value (Operand.func 19), args := #[Operand.tmp 33], argTypes := #[38] }, type := 22, pos := "law.go:88", after := #[{ on := 1, ground := Ground.data }], guard := none }) rfl (fun K hK => ?_) ?_
      · go_simp
        refine (Ln.rsplit_any _ _ _ z0 _ HRr.out (by omega)).mono ?_
        rintro e wA ⟨A34, C34, rfl, hoA, hbA⟩
        have HBA := Lib.hid (HBr.out.trans (hbA.mono hszr))
        have HXA := Lib.hid (Ln.own_keep HXr.out hbA)
        have HOA := Lib.hid hoA
        have hszA := HBA.out.size
        have HSa := Lib.hid (Ln.conv_rd (H0.out.below HBA.out))
        clear hoA hbA
        (try go_wp2_with fail)
        refine hK.out _ _ ?_ (fun hNew => ?_)
        · ((try dsimp only); exact HSa.out)
        clear hK K hHeld
        have hHeld := hNew
        clear hNew
        (try simp only [Act.put, List.setIfInBounds_toArray, List.set_cons_zero, List.set_cons_succ])
        refine wpAnyH_ready (rs := [3]) (by kernel_rfl) (by simp) ?_
        refine AllReadyH.cons (o := { dst := some 35, op := Op.call { callee := Callee.value (Operand.func 15), args := #[Operand.tmp 32, Operand.tmp 34], argTypes := #[22, 22] }, type := 4, pos := "law.go:88", after := #[{ on := 0, ground := Ground.data }, { on := 2, ground := Ground.data }, { on := 2, ground := Ground.chain }], guard := none }) rfl (fun K hK => ?_) ?_
        · go_simp
          refine (Ln.same_call _ _ _ _ _ _ _ _ _ (Ln.Rd.of_own HXA.out hln).1 (Ln.Rd.of_own HOA.out hln).1).mono ?_
          rintro e wB ⟨rfl, hbB⟩
          have HBB := Lib.hid (HBA.out.trans (hbB.mono hszA))
          have HXB := Lib.hid (Ln.own_keep HXA.out hbB)
          have hszB := HBB.out.size
          have HSa := Lib.hid (Ln.conv_rd (H0.out.below HBB.out))
          clear hbB
          (try go_wp2_with fail)
          refine hK.out _ _ ?_ (fun hNew => ?_)
          · ((try dsimp only); exact HSa.out)
          clear hK K hHeld
          have hHeld := hNew
          clear hNew
          (try simp only [Act.put, List.setIfInBounds_toArray, List.set_cons_zero, List.set_cons_succ])
          refine wpAnyH_take (i := 4) (oi := { dst := some 36, op := Op.move (Operand.tmp 35), type := 4, pos := "law.go:88", after := #[{ on := 3, ground := Ground.data }, { on := 3, ground := Ground.chain }], guard := none }) (v := ?_) rfl (by kernel_rfl) (by kernel_rfl) (by kernel_rfl) (fun _ _ _ h => h) (Or.inl ⟨by rfl, ?_⟩) (by assumption) ?_
          rotate_left 1
          · ((intro w hSw; (try dsimp only at hSw); go_simp) <;> with_reducible rfl)
          (try simp only [Act.put, List.setIfInBounds_toArray, List.set_cons_zero, List.set_cons_succ])
          refine wpAnyH_take (i := 5) (oi := { dst := some 37, op := Op.move (Operand.tmp 6), type := 22, pos := "law.go:88", after := #[{ on := 4, ground := Ground.guard }], guard := some (4, true) }) (v := ?_) rfl (by kernel_rfl) (by kernel_rfl) (by kernel_rfl) (fun _ _ _ h => h) (Or.inl ⟨by rfl, ?_⟩) (by assumption) ?_
          rotate_left 1
          · ((intro w hSw; (try dsimp only at hSw); go_simp) <;> with_reducible rfl)
          (try simp only [Act.put, List.setIfInBounds_toArray, List.set_cons_zero, List.set_cons_succ])
          refine wpAnyH_take (i := 8) (oi := { dst := some 40, op := Op.move (Operand.tmp 0), type := 38, pos := "law.go:88", after := #[{ on := 4, ground := Ground.guard }], guard := some (4, true) }) (v := ?_) rfl (by kernel_rfl) (by kernel_rfl) (by kernel_rfl) (fun _ _ _ h => h) (Or.inl ⟨by rfl, ?_⟩) (by assumption) ?_
          rotate_left 1
          · ((intro w hSw; (try dsimp only at hSw); go_simp) <;> with_reducible rfl)
          (try simp only [Act.put, List.setIfInBounds_toArray, List.set_cons_zero, List.set_cons_succ])
          refine wpAnyH_take (i := 9) (oi := { dst := some 41, op := Op.convert 38 9 (Operand.tmp 40), type := 9, pos := "law.go:88", after := #[{ on := 8, ground := Ground.data }, { on := 4, ground := Ground.guard }], guard := some (4, true) }) (v := ?_) rfl (by kernel_rfl) (by kernel_rfl) (by kernel_rfl) (fun _ _ _ h => h) (Or.inl ⟨by rfl, ?_⟩) (by assumption) ?_
          rotate_left 1
          · ((intro w hSw; (try dsimp only at hSw); go_simp) <;> with_reducible rfl)
          (try simp only [Act.put, List.setIfInBounds_toArray, List.set_cons_zero, List.set_cons_succ])
          refine wpAnyH_ready (rs := [6]) (by kernel_rfl) (by simp) ?_
          refine AllReadyH.cons (o := { dst := some 38, op := Op.call { callee := Callee.value (Operand.func 20), args := #[Operand.tmp 37], argTypes := #[22] }, type := 38, pos := "law.go:88", after := #[{ on := 5, ground := Ground.data }, { on := 4, ground := Ground.chain }, { on := 4, ground := Ground.guard }], guard := some (4, true) }) rfl (fun K hK => ?_) ?_
          · go_simp
            refine (Ln.join_any _ _ _ ((Ln.splA [] z0).map Ln.sb) _ (Ln.Rd.of_own HXB.out hln).1 hsx).mono ?_
            rintro e wC hjC
            obtain ⟨A38, C38, rfl, hoC, hbC⟩ := hjC.outOf
            rw [HIX.out] at hoC
            have HBC := Lib.hid (HBB.out.trans (hbC.mono hszB))
            have hszC := HBC.out.size
            have HSa := Lib.hid (Ln.conv_rd (H0.out.below HBC.out))
            have cvC := Ln.conv_row hoC hsx
            clear hoC hbC hjC
            (try go_wp2_with fail)
            refine hK.out _ _ ?_ (fun hNew => ?_)
            · ((try dsimp only); exact HSa.out)
            clear hK K hHeld
            have hHeld := hNew
            clear hNew
            (try simp only [Act.put, List.setIfInBounds_toArray, List.set_cons_zero, List.set_cons_succ])
            refine wpAnyH_ready (rs := [7]) (by kernel_rfl) (by simp) ?_
            refine AllReadyH.cons (o := { dst := some 39, op := Op.convert 38 9 (Operand.tmp 38), type := 9, pos := "law.go:88", after := #[{ on := 6, ground := Ground.data }, { on := 4, ground := Ground.guard }], guard := some (4, true) }) rfl (fun K hK => ?_) ?_
            · go_simp
              refine hK.out _ _ ?_ (fun hNew => ?_)
              · ((try dsimp only); exact HSa.out)
              clear hK K hHeld
              have hHeld := hNew
              clear hNew
              (try simp only [Act.put, List.setIfInBounds_toArray, List.set_cons_zero, List.set_cons_succ])
              refine wpAnyH_take (i := 10) (oi := { dst := some 42, op := Op.binOp BinOp.eql 9 (Operand.tmp 39) (Operand.tmp 41) 9, type := 4, pos := "law.go:88", after := #[{ on := 7, ground := Ground.data }, { on := 9, ground := Ground.data }, { on := 4, ground := Ground.guard }], guard := some (4, true) }) (v := ?_) rfl (by kernel_rfl) (by kernel_rfl) (by kernel_rfl) (fun _ _ _ h => h) (Or.inl ⟨by rfl, ?_⟩) (by assumption) ?_
              rotate_left 1
              · ((intro w hSw; (try dsimp only at hSw); go_simp) <;> with_reducible rfl)
              (try simp only [Act.put, List.setIfInBounds_toArray, List.set_cons_zero, List.set_cons_succ])
              refine wpAnyH_take (i := 11) (oi := { dst := some 43, op := Op.pick (Operand.tmp 36) (Operand.tmp 42) (Operand.const (Value.bool false)), type := 4, pos := "law.go:88", after := #[{ on := 4, ground := Ground.data }, { on := 10, ground := Ground.data }], guard := none }) (v := ?_) rfl (by kernel_rfl) (by kernel_rfl) (by kernel_rfl) (fun _ _ _ h => h) (Or.inl ⟨by rfl, ?_⟩) (by assumption) ?_
              rotate_left 1
              · ((intro w hSw; (try dsimp only at hSw); go_simp) <;> with_reducible rfl)
              (try simp only [Act.put, List.setIfInBounds_toArray, List.set_cons_zero, List.set_cons_succ])
              refine wpAnyH_take (i := 12) (oi := { dst := some 44, op := Op.move (Operand.tmp 43), type := 4, pos := "law.go:88", after := #[{ on := 11, ground := Ground.data }, { on := 6, ground := Ground.chain }], guard := none }) (v := ?_) rfl (by kernel_rfl) (by kernel_rfl) (by kernel_rfl) (fun _ _ _ h => h) (Or.inl ⟨by rfl, ?_⟩) (by assumption) ?_
              rotate_left 1
              · ((intro w hSw; (try dsimp only at hSw); go_simp) <;> with_reducible rfl)
              (try simp only [Act.put, List.setIfInBounds_toArray, List.set_cons_zero, List.set_cons_succ])
              refine wpAnyH_take (i := 13) (oi := { dst := some 45, op := Op.move (Operand.tmp 1), type := 22, pos := "law.go:88", after := #[{ on := 12, ground := Ground.guard }], guard := some (12, true) }) (v := ?_) rfl (by kernel_rfl) (by kernel_rfl) (by kernel_rfl) (fun _ _ _ h => h) (Or.inl ⟨by rfl, ?_⟩) (by assumption) ?_
              rotate_left 1
              · ((intro w hSw; (try dsimp only at hSw); go_simp) <;> with_reducible rfl)
              (try simp only [Act.put, List.setIfInBounds_toArray, List.set_cons_zero, List.set_cons_succ])
              refine wpAnyH_take (i := 16) (oi := { dst := some 48, op := Op.move (Operand.tmp 1), type := 22, pos := "law.go:88", after := #[{ on := 12, ground := Ground.guard }], guard := some (12, true) }) (v := ?_) rfl (by kernel_rfl) (by kernel_rfl) (by kernel_rfl) (fun _ _ _ h => h) (Or.inl ⟨by rfl, ?_⟩) (by assumption) ?_
              rotate_left 1
              · ((intro w hSw; (try dsimp only at hSw); go_simp) <;> with_reducible rfl)
              (try simp only [Act.put, List.setIfInBounds_toArray, List.set_cons_zero, List.set_cons_succ])
              refine wpAnyH_ready (rs := [14]) (by kernel_rfl) (by simp) ?_
              refine AllReadyH.cons (o := { dst := some 46, op := Op.call { callee := Callee.value (Operand.func 20), args := #[Operand.tmp 45], argTypes := #[22] }, type := 38, pos := "law.go:88", after := #[{ on := 13, ground := Ground.data }, { on := 12, ground := Ground.chain }, { on := 12, ground := Ground.guard }], guard := some (12, true) }) rfl (fun K hK => ?_) ?_
              · go_simp
                refine (Ln.join_any _ _ _ s1 _ ((H1.out.below HBC.out).more hszC) hsl).mono ?_
                rintro e wD hjD
                obtain ⟨A46, C46, rfl, hoD, hbD⟩ := hjD.outOf
                have HBD := Lib.hid (HBC.out.trans (hbD.mono hszC))
                have hszD := HBD.out.size
                have HOD := Lib.hid hoD
                have HSa := Lib.hid (Ln.conv_rd (H0.out.below HBD.out))
                have cvD := Ln.conv_row hoD hsl
                clear hoD hbD hjD
                (try go_wp2_with fail)
                refine hK.out _ _ ?_ (fun hNew => ?_)
                · ((try dsimp only); exact HSa.out)
                clear hK K hHeld
                have hHeld := hNew
                clear hNew
                (try simp only [Act.put, List.setIfInBounds_toArray, List.set_cons_zero, List.set_cons_succ])
                refine wpAnyH_ready (rs := [15, 17]) (by kernel_rfl) (by simp) ?_
                refine AllReadyH.cons (o := { dst := some 47, op := Op.convert 38 9 (Operand.tmp 46), type := 9, pos := "law.go:88", after := #[{ on := 14, ground := Ground.data }, { on := 12, ground := Ground.guard }], guard := some (12, true) }) rfl (fun K hK => ?_) ?_
                · go_simp
                  refine hK.out _ _ ?_ (fun hNew => ?_)
                  · ((try dsimp only); exact HSa.out)
                  clear hK K hHeld
                  have hHeld := hNew
                  clear hNew
                  (try simp only [Act.put, List.setIfInBounds_toArray, List.set_cons_zero, List.set_cons_succ])
                  refine wpAnyH_ready (rs := [17]) (by kernel_rfl) (by simp) ?_
                  refine AllReadyH.cons (o := { dst := some 49, op := Op.call { callee := Callee.value (Operand.func 21), args := #[Operand.tmp 48], argTypes := #[22] }, type := 38, pos := "law.go:88", after := #[{ on := 16, ground := Ground.data }, { on := 14, ground := Ground.chain }, { on := 12, ground := Ground.guard }], guard := some (12, true) }) rfl (fun K hK => ?_) ?_
                  · go_simp
                    refine (Ln.rjoin_any _ _ _ s1 _ ((H1.out.below HBD.out).more hszD) hsl).mono ?_
                    rintro e wE hjE
                    obtain ⟨A49, C49, rfl, hoE, hbE⟩ := hjE.outOf
                    have HBE := Lib.hid (HBD.out.trans (hbE.mono hszD))
                    have HSa := Lib.hid (Ln.conv_rd (H0.out.below HBE.out))
                    have cvE := Ln.conv_row hoE hsl
                    have cvD2 := Ln.conv_row (Ln.own_keep HOD.out hbE) hsl
                    clear hoE hbE hjE
                    (try go_wp2_with fail)
                    refine hK.out _ _ ?_ (fun hNew => ?_)
                    · ((try dsimp only); exact HSa.out)
                    clear hK K hHeld
                    have hHeld := hNew
                    clear hNew
                    (try simp only [Act.put, List.setIfInBounds_toArray, List.set_cons_zero, List.set_cons_succ])
                    refine wpAnyH_ready (rs := [18]) (by kernel_rfl) (by simp) ?_
                    refine AllReadyH.cons (o := { dst := some 50, op := Op.convert 38 9 (Operand.tmp 49), type := 9, pos := "law.go:88", after := #[{ on := 17, ground := Ground.data }, { on := 12, ground := Ground.guard }], guard := some (12, true) }) rfl (fun K hK => ?_) ?_
                    · go_simp
                      refine hK.out _ _ ?_ (fun hNew => ?_)
                      · ((try dsimp only); exact HSa.out)
                      clear hK K hHeld
                      have hHeld := hNew
                      clear hNew
                      (try simp only [Act.put, List.setIfInBounds_toArray, List.set_cons_zero, List.set_cons_succ])
                      refine wpAnyH_take (i := 19) (oi := { dst := some 51, op := Op.binOp BinOp.eql 9 (Operand.tmp 47) (Operand.tmp 50) 9, type := 4, pos := "law.go:88", after := #[{ on := 15, ground := Ground.data }, { on := 18, ground := Ground.data }, { on := 12, ground := Ground.guard }], guard := some (12, true) }) (v := ?_) rfl (by kernel_rfl) (by kernel_rfl) (by kernel_rfl) (fun _ _ _ h => h) (Or.inl ⟨by rfl, ?_⟩) (by assumption) ?_
                      rotate_left 1
                      · ((intro w hSw; (try dsimp only at hSw); go_simp) <;> with_reducible rfl)
                      (try simp only [Act.put, List.setIfInBounds_toArray, List.set_cons_zero, List.set_cons_succ])
                      refine wpAnyH_take (i := 20) (oi := { dst := some 52, op := Op.pick (Operand.tmp 44) (Operand.tmp 51) (Operand.const (Value.bool false)), type := 4, pos := "law.go:88", after := #[{ on := 12, ground := Ground.data }, { on := 19, ground := Ground.data }], guard := none }) (v := ?_) rfl (by kernel_rfl) (by kernel_rfl) (by kernel_rfl) (fun _ _ _ h => h) (Or.inl ⟨by rfl, ?_⟩) (by assumption) ?_
                      rotate_left 1
                      · ((intro w hSw; (try dsimp only at hSw); go_simp) <;> with_reducible rfl)
                      (try simp only [Act.put, List.setIfInBounds_toArray, List.set_cons_zero, List.set_cons_succ])
                      refine wpAnyH_take (i := 21) (oi := { dst := some 4, op := Op.assign (Operand.tmp 52), type := 4, pos := "law.go:88", after := #[{ on := 20, ground := Ground.data }, { on := 17, ground := Ground.chain }, { on := 0, ground := Ground.phase }, { on := 1, ground := Ground.phase }, { on := 2, ground := Ground.phase }, { on := 3, ground := Ground.phase }, { on := 4, ground := Ground.phase }, { on := 5, ground := Ground.phase }, { on := 6, ground := Ground.phase }, { on := 7, ground := Ground.phase }, { on := 8, ground := Ground.phase }, { on := 9, ground := Ground.phase }, { on := 10, ground := Ground.phase }, { on := 11, ground := Ground.phase }, { on := 12, ground := Ground.phase }, { on := 13, ground := Ground.phase }, { on := 14, ground := Ground.phase }, { on := 15, ground := Ground.phase }, { on := 16, ground := Ground.phase }, { on := 17, ground := Ground.phase }, { on := 18, ground := Ground.phase }, { on := 19, ground := Ground.phase }, { on := 20, ground := Ground.phase }], guard := none }) (v := ?_) rfl (by kernel_rfl) (by kernel_rfl) (by kernel_rfl) (fun _ _ _ h => h) (Or.inl ⟨by rfl, ?_⟩) (by assumption) ?_
                      rotate_left 1
                      · ((intro w hSw; (try dsimp only at hSw); go_simp) <;> with_reducible rfl)
                      (try simp only [Act.put, List.setIfInBounds_toArray, List.set_cons_zero, List.set_cons_succ])
                      refine wpAnyH_done (by kernel_rfl) ?_ _
                      refine NoPanic.normal ?_
                      go_wp2_with fail
                      go_ret
                      exact ⟨rfl, HBE.out⟩
                    exact AllReadyH.nil
                  exact AllReadyH.nil
                refine AllReadyH.cons (o := { dst := some 49, op := Op.call { callee := Callee.value (Operand.func 21), args := #[Operand.tmp 48], argTypes := #[22] }, type := 38, pos := "law.go:88", after := #[{ on := 16, ground := Ground.data }, { on := 14, ground := Ground.chain }, { on := 12, ground := Ground.guard }], guard := some (12, true) }) rfl (fun K hK => ?_) ?_
                · go_simp
                  refine (Ln.rjoin_any _ _ _ s1 _ ((H1.out.below HBD.out).more hszD) hsl).mono ?_
                  rintro e wE hjE
                  obtain ⟨A49, C49, rfl, hoE, hbE⟩ := hjE.outOf
                  have HBE := Lib.hid (HBD.out.trans (hbE.mono hszD))
                  have HSa := Lib.hid (Ln.conv_rd (H0.out.below HBE.out))
                  have cvE := Ln.conv_row hoE hsl
                  have cvD2 := Ln.conv_row (Ln.own_keep HOD.out hbE) hsl
                  clear hoE hbE hjE
                  (try go_wp2_with fail)
                  refine hK.out _ _ ?_ (fun hNew => ?_)
                  · ((try dsimp only); exact HSa.out)
                  clear hK K hHeld
                  have hHeld := hNew
                  clear hNew
                  (try simp only [Act.put, List.setIfInBounds_toArray, List.set_cons_zero, List.set_cons_succ])
                  refine wpAnyH_ready (rs := [15, 18]) (by kernel_rfl) (by simp) ?_
                  refine AllReadyH.cons (o := { dst := some 47, op := Op.convert 38 9 (Operand.tmp 46), type := 9, pos := "law.go:88", after := #[{ on := 14, ground := Ground.data }, { on := 12, ground := Ground.guard }], guard := some (12, true) }) rfl (fun K hK => ?_) ?_
                  · go_simp
                    refine hK.out _ _ ?_ (fun hNew => ?_)
                    · ((try dsimp only); exact HSa.out)
                    clear hK K hHeld
                    have hHeld := hNew
                    clear hNew
                    (try simp only [Act.put, List.setIfInBounds_toArray, List.set_cons_zero, List.set_cons_succ])
                    refine wpAnyH_ready (rs := [18]) (by kernel_rfl) (by simp) ?_
                    refine AllReadyH.cons (o := { dst := some 50, op := Op.convert 38 9 (Operand.tmp 49), type := 9, pos := "law.go:88", after := #[{ on := 17, ground := Ground.data }, { on := 12, ground := Ground.guard }], guard := some (12, true) }) rfl (fun K hK => ?_) ?_
                    · go_simp
                      refine hK.out _ _ ?_ (fun hNew => ?_)
                      · ((try dsimp only); exact HSa.out)
                      clear hK K hHeld
                      have hHeld := hNew
                      clear hNew
                      (try simp only [Act.put, List.setIfInBounds_toArray, List.set_cons_zero, List.set_cons_succ])
                      refine wpAnyH_take (i := 19) (oi := { dst := some 51, op := Op.binOp BinOp.eql 9 (Operand.tmp 47) (Operand.tmp 50) 9, type := 4, pos := "law.go:88", after := #[{ on := 15, ground := Ground.data }, { on := 18, ground := Ground.data }, { on := 12, ground := Ground.guard }], guard := some (12, true) }) (v := ?_) rfl (by kernel_rfl) (by kernel_rfl) (by kernel_rfl) (fun _ _ _ h => h) (Or.inl ⟨by rfl, ?_⟩) (by assumption) ?_
                      rotate_left 1
                      · ((intro w hSw; (try dsimp only at hSw); go_simp) <;> with_reducible rfl)
                      (try simp only [Act.put, List.setIfInBounds_toArray, List.set_cons_zero, List.set_cons_succ])
                      refine wpAnyH_take (i := 20) (oi := { dst := some 52, op := Op.pick (Operand.tmp 44) (Operand.tmp 51) (Operand.const (Value.bool false)), type := 4, pos := "law.go:88", after := #[{ on := 12, ground := Ground.data }, { on := 19, ground := Ground.data }], guard := none }) (v := ?_) rfl (by kernel_rfl) (by kernel_rfl) (by kernel_rfl) (fun _ _ _ h => h) (Or.inl ⟨by rfl, ?_⟩) (by assumption) ?_
                      rotate_left 1
                      · ((intro w hSw; (try dsimp only at hSw); go_simp) <;> with_reducible rfl)
                      (try simp only [Act.put, List.setIfInBounds_toArray, List.set_cons_zero, List.set_cons_succ])
                      refine wpAnyH_take (i := 21) (oi := { dst := some 4, op := Op.assign (Operand.tmp 52), type := 4, pos := "law.go:88", after := #[{ on := 20, ground := Ground.data }, { on := 17, ground := Ground.chain }, { on := 0, ground := Ground.phase }, { on := 1, ground := Ground.phase }, { on := 2, ground := Ground.phase }, { on := 3, ground := Ground.phase }, { on := 4, ground := Ground.phase }, { on := 5, ground := Ground.phase }, { on := 6, ground := Ground.phase }, { on := 7, ground := Ground.phase }, { on := 8, ground := Ground.phase }, { on := 9, ground := Ground.phase }, { on := 10, ground := Ground.phase }, { on := 11, ground := Ground.phase }, { on := 12, ground := Ground.phase }, { on := 13, ground := Ground.phase }, { on := 14, ground := Ground.phase }, { on := 15, ground := Ground.phase }, { on := 16, ground := Ground.phase }, { on := 17, ground := Ground.phase }, { on := 18, ground := Ground.phase }, { on := 19, ground := Ground.phase }, { on := 20, ground := Ground.phase }], guard := none }) (v := ?_) rfl (by kernel_rfl) (by kernel_rfl) (by kernel_rfl) (fun _ _ _ h => h) (Or.inl ⟨by rfl, ?_⟩) (by assumption) ?_
                      rotate_left 1
                      · ((intro w hSw; (try dsimp only at hSw); go_simp) <;> with_reducible rfl)
                      (try simp only [Act.put, List.setIfInBounds_toArray, List.set_cons_zero, List.set_cons_succ])
                      refine wpAnyH_done (by kernel_rfl) ?_ _
                      refine NoPanic.normal ?_
                      go_wp2_with fail
                      go_ret
                      exact ⟨rfl, HBE.out⟩
                    exact AllReadyH.nil
                  refine AllReadyH.cons (o := { dst := some 50, op := Op.convert 38 9 (Operand.tmp 49), type := 9, pos := "law.go:88", after := #[{ on := 17, ground := Ground.data }, { on := 12, ground := Ground.guard }], guard := some (12, true) }) rfl (fun K hK => ?_) ?_
                  · go_simp
                    refine hK.out _ _ ?_ (fun hNew => ?_)
                    · ((try dsimp only); exact HSa.out)
                    clear hK K hHeld
                    have hHeld := hNew
                    clear hNew
                    (try simp only [Act.put, List.setIfInBounds_toArray, List.set_cons_zero, List.set_cons_succ])
                    refine wpAnyH_ready (rs := [15]) (by kernel_rfl) (by simp) ?_
                    refine AllReadyH.cons (o := { dst := some 47, op := Op.convert 38 9 (Operand.tmp 46), type := 9, pos := "law.go:88", after := #[{ on := 14, ground := Ground.data }, { on := 12, ground := Ground.guard }], guard := some (12, true) }) rfl (fun K hK => ?_) ?_
                    · go_simp
                      refine hK.out _ _ ?_ (fun hNew => ?_)
                      · ((try dsimp only); exact HSa.out)
                      clear hK K hHeld
                      have hHeld := hNew
                      clear hNew
                      (try simp only [Act.put, List.setIfInBounds_toArray, List.set_cons_zero, List.set_cons_succ])
                      refine wpAnyH_take (i := 19) (oi := { dst := some 51, op := Op.binOp BinOp.eql 9 (Operand.tmp 47) (Operand.tmp 50) 9, type := 4, pos := "law.go:88", after := #[{ on := 15, ground := Ground.data }, { on := 18, ground := Ground.data }, { on := 12, ground := Ground.guard }], guard := some (12, true) }) (v := ?_) rfl (by kernel_rfl) (by kernel_rfl) (by kernel_rfl) (fun _ _ _ h => h) (Or.inl ⟨by rfl, ?_⟩) (by assumption) ?_
                      rotate_left 1
                      · ((intro w hSw; (try dsimp only at hSw); go_simp) <;> with_reducible rfl)
                      (try simp only [Act.put, List.setIfInBounds_toArray, List.set_cons_zero, List.set_cons_succ])
                      refine wpAnyH_take (i := 20) (oi := { dst := some 52, op := Op.pick (Operand.tmp 44) (Operand.tmp 51) (Operand.const (Value.bool false)), type := 4, pos := "law.go:88", after := #[{ on := 12, ground := Ground.data }, { on := 19, ground := Ground.data }], guard := none }) (v := ?_) rfl (by kernel_rfl) (by kernel_rfl) (by kernel_rfl) (fun _ _ _ h => h) (Or.inl ⟨by rfl, ?_⟩) (by assumption) ?_
                      rotate_left 1
                      · ((intro w hSw; (try dsimp only at hSw); go_simp) <;> with_reducible rfl)
                      (try simp only [Act.put, List.setIfInBounds_toArray, List.set_cons_zero, List.set_cons_succ])
                      refine wpAnyH_take (i := 21) (oi := { dst := some 4, op := Op.assign (Operand.tmp 52), type := 4, pos := "law.go:88", after := #[{ on := 20, ground := Ground.data }, { on := 17, ground := Ground.chain }, { on := 0, ground := Ground.phase }, { on := 1, ground := Ground.phase }, { on := 2, ground := Ground.phase }, { on := 3, ground := Ground.phase }, { on := 4, ground := Ground.phase }, { on := 5, ground := Ground.phase }, { on := 6, ground := Ground.phase }, { on := 7, ground := Ground.phase }, { on := 8, ground := Ground.phase }, { on := 9, ground := Ground.phase }, { on := 10, ground := Ground.phase }, { on := 11, ground := Ground.phase }, { on := 12, ground := Ground.phase }, { on := 13, ground := Ground.phase }, { on := 14, ground := Ground.phase }, { on := 15, ground := Ground.phase }, { on := 16, ground := Ground.phase }, { on := 17, ground := Ground.phase }, { on := 18, ground := Ground.phase }, { on := 19, ground := Ground.phase }, { on := 20, ground := Ground.phase }], guard := none }) (v := ?_) rfl (by kernel_rfl) (by kernel_rfl) (by kernel_rfl) (fun _ _ _ h => h) (Or.inl ⟨by rfl, ?_⟩) (by assumption) ?_
                      rotate_left 1
                      · ((intro w hSw; (try dsimp only at hSw); go_simp) <;> with_reducible rfl)
                      (try simp only [Act.put, List.setIfInBounds_toArray, List.set_cons_zero, List.set_cons_succ])
                      refine wpAnyH_done (by kernel_rfl) ?_ _
                      refine NoPanic.normal ?_
                      go_wp2_with fail
                      go_ret
                      exact ⟨rfl, HBE.out⟩
                    exact AllReadyH.nil
                  exact AllReadyH.nil
                exact AllReadyH.nil
              exact AllReadyH.nil
            exact AllReadyH.nil
          exact AllReadyH.nil
        exact AllReadyH.nil
      exact AllReadyH.nil

set_option maxRecDepth 100000 in
theorem lifted (os : Os) (started : os.Started) (H : Type) (enc : TypeId × Value → H) (F : Stop.Interp) :
    ReturnsInHanded {} Try.checked os 5 .any ((Rows.OpenSpec.upto Rows.linesSplitsSpec).pre6 enc Try.prog Try.f5 Rows.linesSplitsUptoRow.domain false) (((Rows.OpenSpec.upto Rows.linesSplitsSpec).at F).post enc Try.prog Try.f5 false true false false) := by
  refine returnsInHanded_of_cond_sized (C := Try.checked) (s := (Rows.OpenSpec.upto Rows.linesSplitsSpec)) (k := Rows.uptoSmall) rfl own started (by kernel_rfl) Try.func5
    (OpenSpec.witness (enc := enc) (C := Try.checked) (s := (Rows.OpenSpec.upto Rows.linesSplitsSpec)) (k := Rows.uptoSmall) rfl false ⟨#[], #[.slice none 0 0, .slice none 0 0], []⟩ 8 (by kernel_rfl) (by kernel_rfl) (by kernel_rfl)
      (x := ([.nil, .nil], [], [])) (by kernel_rfl) rfl (by kernel_rfl)) ?_
  intro W base args ds gs before hval0 hW _ hk0 hsz0 _
  have hsz : (DataW.weightsEach Try.prog (Try.f5.params.toList ++ (Rows.OpenSpec.upto Rows.linesSplitsSpec).bare.plain.varTypes Try.prog) (ds ++ gs)).all (· ≤ reachBytes) = true := hsz0
  clear hsz0
  have hval : ∀ (j : Nat) t v, Try.f5.params[j]? = some t → args[j]? = some v → Value.okWide Try.prog W .any base t v := hval0
  have hW' := hW
  obtain ⟨p, q, hA0, hV, rfl, _, _⟩ := hW
  have hA : DataW.TrodAll enc Try.prog W 0 (fun _ => true) true Try.f5.params.toList args.toList ds p := hA0
  rw [Try.params5] at hA hval hsz
  obtain ⟨v0, vs0, d0, ds0, p0, q0, hargs, rfl, rfl, h0, r0⟩ := trodAll_cons hA
  obtain ⟨v1, vs1, d1, ds1, p1, q1, rfl, rfl, rfl, h1, r1⟩ := trodAll_cons r0
  obtain ⟨rfl, rfl, rfl⟩ := trodAll_nil r1
  obtain rfl : args = #[v0, v1] := by cases args; simp_all
  obtain ⟨rfl, rfl⟩ := trodVars_none hV
  have hk : Rows.uptoBulkAll ([d0, d1] ++ []) ≤ 1048576 := of_decide_eq_true hk0
  simp only [List.append_nil, Rows.uptoBulkAll] at hk
  have bulk0 : Rows.uptoBulk d0 ≤ 1048576 := by omega
  have bulk1 : Rows.uptoBulk d1 ≤ 1048576 := by omega
  have k0 := h0
  have lt0 : ∀ x ∈ p0, x.block < W.heap.size := by obtain ⟨m, hm⟩ := k0; exact DataW.trod_lt m _ _ _ hm
  have k1 := h1
  have lt1 : ∀ x ∈ p1, x.block < W.heap.size := by obtain ⟨m, hm⟩ := k1; exact DataW.trod_lt m _ _ _ hm
  obtain ⟨a0, len0, cap0, rfl⟩ := okWide_slice Try.underlying38 (hval 0 38 v0 rfl rfl)
  obtain ⟨z0, w0⟩ := Fr.isInts_of (b := 1) Try.underlying38 Try.underlying5 (by kernel_rfl) (by kernel_rfl) hsz (j := 0) rfl rfl h0
  obtain ⟨a1, len1, cap1, rfl⟩ := okWide_slice Try.underlying22 (hval 1 22 v1 rfl rfl)
  obtain ⟨s1, w1⟩ := Fr.isStrs_of Try.underlying22 Try.underlying9 (by kernel_rfl) (by kernel_rfl) hsz (j := 1) rfl rfl h1
  clear hA0 hval0
  simp only [List.append_nil] at hW'
  refine (walk W a0 len0 cap0 z0 w0 a1 len1 cap1 s1 w1).mono fun e W' ⟨he, bel⟩ => ?_
  subst he
  exact ⟨_, rfl, _, _, _, [], _, [], hW', trodAll_mk1 (shut_bool Try.underlying4 _), (trodAll_cons_mk (Below.trod laidOut (by kernel_rfl) (of_decide_eq_true (by kernel_rfl)) k0 bel lt0) (trodAll_cons_mk (Below.trod laidOut (by kernel_rfl) (of_decide_eq_true (by kernel_rfl)) k1 bel lt1) trodAll_mk0)), rfl, bel.frame _, fun h => by cases h⟩

/-- The statement. -/
theorem proved : Rows.LinesSplitsUptoSaid :=
  OpenClaim.holds_of_cond 5 Try.f5 rfl rfl rfl rfl rfl rfl rfl ⟨rfl, rfl, rfl, rfl, rfl⟩ rfl rfl rfl rfl rfl (by kernel_rfl) Try.func5 (by kernel_rfl)
    (of_decide_eq_true (by kernel_rfl)) (by unfold Func.isWrapper; first | (rw [if_pos (by decide +kernel)]; kernel_rfl) | (rw [if_neg (by decide +kernel)]; exact ⟨rfl, rfl⟩))
    (fun os started H enc _ F => lifted os started H enc F)
#print axioms proved
end Go.Proofs.Ytfgmnfcakeenmaa.linesSplitsUpto
