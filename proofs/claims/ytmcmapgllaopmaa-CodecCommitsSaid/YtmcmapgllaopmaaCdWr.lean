/- The document's wrong. -/
import Derived.Test.YtmcmapgllaopmaaCdChk
namespace Go.Proofs.Ytmcmapgllaopmaa.Cd
open Go.RowKit
set_option linter.unusedVariables false

set_option maxRecDepth 100000 in
set_option maxHeartbeats 2000000 in
theorem wrong_any (tr : List Int) (hl : tr.length = 32) (A : Option Addr) (n C : Nat) (ids : List (List Int)) (au : ByteArray) (tm : Int) (ms : ByteArray) (w : World) (h : RdIds w A n C ids) :
    Calls Try.prog 52 #[.agg (cm tr (.slice A n C) au tm ms).toArray] w fun e w' => e = .returned (.int .i64 (wE tr ids au ms)) ∧ Below w.heap.size w w' := by
  have hX := cm_row w tr (.slice A n C) au tm ms hl
  have hb0 := (Below.refl w.heap.size w).alloc (Nat.le_refl _) (.cells (cm tr (.slice A n C) au tm ms).toArray 40)
  have HI := Lib.hid (h.below hb0)
  have HB := Lib.hid hb0
  have HX := Lib.hid hX
  have hsX := hX.lt
  have HRg := Lib.hid (cm_tree hX hl)
  have HSz := Lib.hid (show (Try.prog.info? 37).map (·.size) = some (bv tr).length by rw [bv_len, hl]; kernel_rfl)
  have hq : ∀ W, (Op.equalIn 10000 37 (.agg (bv tr).toArray) (.agg (bv (List.replicate 32 0)).toArray)).run Try.prog W = .ok (decide (tr = List.replicate 32 0)) W := fun W => ids_none tr hl W
  have hz32 := zero32
  have hcap := h.cap
  have hmax := h.max
  have hbig := h.big
  have HLn := Lib.hid h.len
  have hw0 := wE tr ids au ms
  clear hw0
  have HW := Lib.hid (show wE tr ids au ms = if tr = List.replicate 32 0 then 1 else if 8 < ids.length then 4 else if pwF [] ids = 0 then (if 1000 < au.size ∨ 1000 < ms.size then 5 else 0) else pwF [] ids from rfl)
  clear hX hb0 h
  generalize hZI : (bv (List.replicate 32 0)).toArray = ZI at *
  have HZI := Lib.hid hZI
  clear hZI
  have hZl : ZI.size = 32 := by rw [← HZI.out]; simp [bv]
  have HZl := Lib.hid hZl
  clear hZl
  have hc32 : (w.alloc (.cells (cm tr (.slice A n C) au tm ms).toArray 40)).cell? ⟨w.heap.size, 32, none⟩ = some (.slice A n C) := HX.out.cell (i := 32) (by omega)
  have hc33 : (w.alloc (.cells (cm tr (.slice A n C) au tm ms).toArray 40)).cell? ⟨w.heap.size, 33, none⟩ = some (.string au) := HX.out.cell (i := 33) (by omega)
  have hc35 : (w.alloc (.cells (cm tr (.slice A n C) au tm ms).toArray 40)).cell? ⟨w.heap.size, 35, none⟩ = some (.string ms) := HX.out.cell (i := 35) (by omega)
  generalize hCM : cm tr (.slice A n C) au tm ms = CM at *
  clear hCM
  generalize hDI : bv tr = DI at *
  clear hDI
  go_enter Try.func52, Try.ntmps52
  have hag : (Value.agg CM.toArray).cells = CM.toArray := rfl
  go_upto_region 1 with (fail)
  generalize w.alloc (.cells CM.toArray 40) = w1 at *
  obtain ⟨X, hX⟩ : ∃ X, X = w.heap.size := ⟨_, rfl⟩
  rw [← hX] at HX HRg hsX hc32 hc33 hc35 HB ⊢
  have HXw := Lib.hid hX
  clear hX
  by_cases hz0 : tr = List.replicate 32 0
  · rw [decide_eq_true hz0] at hq
    have hw := HW.out
    rw [if_pos hz0] at hw
    have HW3 := Lib.hid hw
    clear hz0 HW hw
    go_wp2_with (refine wpList_load_mid rfl _ _ rfl X 0 rfl DI _ HRg.out Try.underlying37 rfl HSz.out ?_)
    go_ret
    exact ⟨by rw [HW3.out]; rfl, by rw [← HXw.out]; exact HB.out⟩
  · rw [decide_eq_false hz0] at hq
    by_cases h8 : 8 < n
    · have hw := HW.out
      rw [if_neg hz0, if_pos (by rw [HLn.out]; exact h8)] at hw
      have hd : decide ((8 : Int) < (n : Int)) = true := by simp; omega
      have HW3 := Lib.hid hw
      clear hz0 HW hw
      go_wp2_with (refine wpList_load_mid rfl _ _ rfl X 0 rfl DI _ HRg.out Try.underlying37 rfl HSz.out ?_)
      go_ret
      exact ⟨by rw [HW3.out]; rfl, by rw [← HXw.out]; exact HB.out⟩
    · have hw := HW.out
      rw [if_neg hz0, if_neg (by rw [HLn.out]; exact h8)] at hw
      have HW2 := Lib.hid hw
      have hd : decide ((8 : Int) < (n : Int)) = false := by simp; omega
      clear hz0 HW hw
      go_wp2_with (refine wpList_load_mid rfl _ _ rfl X 0 rfl DI _ HRg.out Try.underlying37 rfl HSz.out ?_)
      clear hc32 hc33 hc35 hq HRg
      go_loopw [3] (fun s wr => ∃ k : Nat, s = .int .i64 k ∧ k ≤ n ∧ Hid (pwF (ids.take k) (ids.drop k) = pwF [] ids) ∧ Hid (RdIds wr A n C ids) ∧ Hid (wr.rowIs X 40 36 (cmF tr (.slice A n C) au tm ms)) ∧ Hid (Below X w wr)) (fun s _ => n - (intOf s).toNat)
      case atStart => exact ⟨0, rfl, Nat.zero_le _, Lib.hid rfl, HI, HX, HB⟩
      case round =>
        clear HI HX HB
        obtain ⟨k, rfl, hk, HF, HI, HX, HB⟩ := hrel
        have hXw : X < wr.heap.size := HX.out.lt
        by_cases hlt : k < n
        · obtain ⟨g, o, rfl, hg, hc⟩ := HI.out.cell (by omega)
          have hst := pwF_step ids k (by have := HLn.out; omega)
          rw [HF.out] at hst
          have hpl := HI.out.ids _ (getD_mem (k := k) (by have := HLn.out; omega))
          have hpr := hc k hlt
          obtain ⟨p, hp⟩ : ∃ p, p = ids.getD k [] := ⟨_, rfl⟩
          rw [← hp] at hst hpl hpr
          have Hpl := Lib.hid hpl
          have HSt := Lib.hid hst
          have HPr := Lib.hid hpr
          have HES : Hid ((Try.prog.info? 37).map (·.size) = some (bv p).length) := Lib.hid (by rw [bv_len, hpl]; kernel_rfl)
          have hqp : ∀ W, (Op.equalIn 10000 37 (.agg (bv p).toArray) (.agg ZI)).run Try.prog W = .ok (decide (p = List.replicate 32 0)) W := fun W => by rw [← HZI.out]; exact ids_none p hpl W
          have hcx : wr.cell? ⟨X, 32, none⟩ = some (.slice (some ⟨g, o, none⟩) n C) := HX.out.cell (i := 32) (by omega)
          have hk0 : (0 : Int) ≤ (k : Int) := by omega
          have hk1 : (k : Int) < (n : Int) := by omega
          have hkn : k < n := hlt
          have hkC : k ≤ C := by omega
          have hkC2 : (k : Int) ≤ (C : Int) := by omega
          have hcpe : cp p (ids.take k) = if p = List.replicate 32 0 then 1 else if p ∈ ids.take k then 18 else 0 := rfl
          rw [hcpe] at hst
          clear hpl hpr hp hc HF hcpe
          by_cases hzp : p = List.replicate 32 0
          · rw [decide_eq_true hzp] at hqp
            rw [if_pos hzp, if_neg (by decide)] at hst
            have hw := HW2.out
            rw [if_neg (by rw [hst]; decide), hst] at hw
            have HW3 := Lib.hid hw
            clear hzp hst hw HW2 HSt
            go_wp2_with (refine wpList_load_mid rfl _ _ rfl g (o + k * 32) rfl (bv p) _ HPr.out Try.underlying37 rfl HES.out ?_)
            go_ret
            exact ⟨by rw [HW3.out]; rfl, by rw [← HXw.out]; exact HB.out⟩
          · rw [decide_eq_false hzp] at hqp
            rw [if_neg hzp] at hst
            clear HSt
            have HSt := Lib.hid hst
            clear hzp hst
            go_wp2_with (refine wpList_load_mid rfl _ _ rfl g (o + k * 32) rfl (bv p) _ HPr.out Try.underlying37 rfl HES.out ?_)
            have HIt : Hid (RdIds wr.drew (some ⟨g, o, none⟩) k C (ids.take k)) := Lib.hid (by
              have h := HI.out.take k hk
              exact ⟨h.cap, h.max, h.big, h.len, h.ids, h.cell⟩)
            have dX := Lib.hid ((World.rangeAt_drew _ _ _ _).2 HPr.out)
            have dR := Lib.hid (row_drew HX.out)
            have dI : Hid (RdIds wr.drew (some ⟨g, o, none⟩) n C ids) := Lib.hid ⟨HI.out.cap, HI.out.max, HI.out.big, HI.out.len, HI.out.ids, HI.out.cell⟩
            have dB := Lib.hid HB.out.drew
            have dC : Hid (wr.drew.cell? ⟨X, 32, none⟩ = some (.slice (some ⟨g, o, none⟩) n C)) := Lib.hid hcx
            have hgd : g < wr.drew.heap.size := hg
            clear HI HX HB HPr hqp hg hcx
            refine wp_region_noPanic ?_
            refine wp_region_held_drew (S := (fun wS => wS.rangeAt g (o + k * 32) (bv p) ∧ wS.cell? ⟨X, 32, none⟩ = some (.slice (some ⟨g, o, none⟩) n C))) (by kernel_rfl) ?_ (fun hHeld => ?_)
            · ((try dsimp only); exact ⟨dX.out, dC.out⟩)
            refine wpAnyH_take (i := 0) (oi := { dst := some 26, op := Op.fieldAddr 40 (Operand.tmp 1) 1, type := 0, pos := "ref.go:145", after := #[], guard := none }) (v := ?_) rfl (by kernel_rfl) (by kernel_rfl) (by kernel_rfl) (fun _ _ _ h => h) (Or.inl ⟨by rfl, ?_⟩) (by assumption) ?_
            rotate_left 1
            · ((intro w hSw; (try dsimp only at hSw); go_simp) <;> with_reducible rfl)
            (try simp only [Act.put, List.setIfInBounds_toArray, List.set_cons_zero, List.set_cons_succ])
            refine wpAnyH_take (i := 1) (oi := { dst := some 27, op := Op.load 38 (Operand.tmp 26), type := 38, pos := "ref.go:145", after := #[{ on := 0, ground := Ground.data }], guard := none }) (v := ?_) rfl (by kernel_rfl) (by kernel_rfl) (by kernel_rfl) (fun _ _ _ h => h) (Or.inl ⟨by rfl, ?_⟩) (by assumption) ?_
            rotate_left 1
            · ((intro w hSw; (try dsimp only at hSw); go_simp) <;> with_reducible rfl)
            (try simp only [Act.put, List.setIfInBounds_toArray, List.set_cons_zero, List.set_cons_succ])
            refine wpAnyH_take (i := 2) (oi := { dst := some 28, op := Op.move (Operand.tmp 3), type := 3, pos := "ref.go:145", after := #[], guard := none }) (v := ?_) rfl (by kernel_rfl) (by kernel_rfl) (by kernel_rfl) (fun _ _ _ h => h) (Or.inl ⟨by rfl, ?_⟩) (by assumption) ?_
            rotate_left 1
            · ((intro w hSw; (try dsimp only at hSw); go_simp) <;> with_reducible rfl)
            (try simp only [Act.put, List.setIfInBounds_toArray, List.set_cons_zero, List.set_cons_succ])
            refine wpAnyH_take (i := 3) (oi := { dst := some 29, op := Op.slice 38 (Operand.tmp 27) none (some (Operand.tmp 28)) none, type := 38, pos := "ref.go:145", after := #[{ on := 1, ground := Ground.data }, { on := 2, ground := Ground.data }], guard := none }) (v := ?_) rfl (by kernel_rfl) (by kernel_rfl) (by kernel_rfl) (fun _ _ _ h => h) (Or.inl ⟨by rfl, ?_⟩) (by assumption) ?_
            rotate_left 1
            · ((intro w hSw; (try dsimp only at hSw); go_simp) <;> with_reducible rfl)
            (try simp only [Act.put, List.setIfInBounds_toArray, List.set_cons_zero, List.set_cons_succ])
            refine wpAnyH_take (i := 4) (oi := { dst := some 30, op := Op.fieldAddr 40 (Operand.tmp 1) 1, type := 0, pos := "ref.go:145", after := #[], guard := none }) (v := ?_) rfl (by kernel_rfl) (by kernel_rfl) (by kernel_rfl) (fun _ _ _ h => h) (Or.inl ⟨by rfl, ?_⟩) (by assumption) ?_
            rotate_left 1
            · ((intro w hSw; (try dsimp only at hSw); go_simp) <;> with_reducible rfl)
            (try simp only [Act.put, List.setIfInBounds_toArray, List.set_cons_zero, List.set_cons_succ])
            refine wpAnyH_take (i := 5) (oi := { dst := some 31, op := Op.load 38 (Operand.tmp 30), type := 38, pos := "ref.go:145", after := #[{ on := 4, ground := Ground.data }], guard := none }) (v := ?_) rfl (by kernel_rfl) (by kernel_rfl) (by kernel_rfl) (fun _ _ _ h => h) (Or.inl ⟨by rfl, ?_⟩) (by assumption) ?_
            rotate_left 1
            · ((intro w hSw; (try dsimp only at hSw); go_simp) <;> with_reducible rfl)
            (try simp only [Act.put, List.setIfInBounds_toArray, List.set_cons_zero, List.set_cons_succ])
            refine wpAnyH_take (i := 6) (oi := { dst := some 32, op := Op.move (Operand.tmp 3), type := 3, pos := "ref.go:145", after := #[], guard := none }) (v := ?_) rfl (by kernel_rfl) (by kernel_rfl) (by kernel_rfl) (fun _ _ _ h => h) (Or.inl ⟨by rfl, ?_⟩) (by assumption) ?_
            rotate_left 1
            · ((intro w hSw; (try dsimp only at hSw); go_simp) <;> with_reducible rfl)
            (try simp only [Act.put, List.setIfInBounds_toArray, List.set_cons_zero, List.set_cons_succ])
            refine wpAnyH_take (i := 7) (oi := { dst := some 33, op := Op.indexAddr 38 (Operand.tmp 31) (Operand.tmp 32), type := 0, pos := "ref.go:145", after := #[{ on := 5, ground := Ground.data }, { on := 6, ground := Ground.data }], guard := none }) (v := ?_) rfl (by kernel_rfl) (by kernel_rfl) (by kernel_rfl) (fun _ _ _ h => h) (Or.inl ⟨by rfl, ?_⟩) (by assumption) ?_
            rotate_left 1
            · ((intro w hSw; (try dsimp only at hSw); go_simp) <;> with_reducible rfl)
            (try simp only [Act.put, List.setIfInBounds_toArray, List.set_cons_zero, List.set_cons_succ])
            refine' wpAnyH_take (i := 8) (oi := { dst := some 34, op := Op.load 37 (Operand.tmp 33), type := 37, pos := "ref.go:145", after := #[{ on := 7, ground := Ground.data }], guard := none }) (v := _) rfl (by kernel_rfl) (by kernel_rfl) (by kernel_rfl) (fun _ _ _ h => h) (yieldsIf_load_mid (by rfl) _ _ rfl _ _ rfl (bv p) _ (fun w hSw => hSw.1) Try.underlying37 rfl HES.out) (by assumption) ?_
            (try simp only [Act.put, List.setIfInBounds_toArray, List.set_cons_zero, List.set_cons_succ])
            refine wpAnyH_ready (rs := [9]) (by kernel_rfl) (by simp) ?_
            refine AllReadyH.cons (o := { dst := some 35, op := Op.call { callee := Callee.value (Operand.func 55), args := #[Operand.tmp 29, Operand.tmp 34], argTypes := #[38, 37] }, type := 4, pos := "ref.go:145", after := #[{ on := 3, ground := Ground.data }, { on := 8, ground := Ground.data }], guard := none }) rfl (fun K hK => ?_) ?_
            · go_simp
              refine (has_any (some ⟨g, o, none⟩) k C (ids.take k) p Hpl.out _ HIt.out).mono ?_
              rintro e w7 ⟨rfl, hb7⟩
              have eX := Lib.hid (range_below hb7 dX.out hgd)
              have eR := Lib.hid (World.rowIs.of_block dR.out (hb7.block X dR.out.lt))
              have eI := Lib.hid (dI.out.below hb7)
              have eB := Lib.hid (dB.out.trans (hb7.mono (Nat.le_of_lt dR.out.lt)))
              have eC : Hid (w7.cell? ⟨X, 32, none⟩ = some (.slice (some ⟨g, o, none⟩) n C)) := Lib.hid (eR.out.cell (i := 32) (by omega))
              clear dX dR dI dB dC hb7 hgd
              have dX := eX
              have dR := eR
              have dI := eI
              have dB := eB
              have dC := eC
              clear eX eR eI eB eC
              (try go_wp2_with fail)
              refine hK.out _ _ ?_ (fun hNew => ?_)
              · ((try dsimp only); exact ⟨dX.out, dC.out⟩)
              clear hK K hHeld
              have hHeld := hNew
              clear hNew
              (try simp only [Act.put, List.setIfInBounds_toArray, List.set_cons_zero, List.set_cons_succ])
              refine wpAnyH_done (by kernel_rfl) ?_ _
              refine NoPanic.normal ?_
              clear hHeld
              have hst := HSt.out
              by_cases hin : p ∈ ids.take k
              · rw [decide_eq_true hin]
                rw [if_pos hin, if_neg (by decide)] at hst
                have hw := HW2.out
                rw [if_neg (by rw [hst]; decide), hst] at hw
                have HW3 := Lib.hid hw
                clear hst HSt dX dC HW2 hw hin
                go_wp2_with fail
                go_ret
                exact ⟨by rw [HW3.out]; rfl, by rw [← HXw.out]; exact dB.out⟩
              · rw [decide_eq_false hin]
                rw [if_neg hin, if_pos rfl] at hst
                have HF2 := Lib.hid hst.symm
                clear hst HSt dX dC hin
                go_wp2_with fail
                go_roundw
                case rel => exact ⟨k + 1, by go_num, by omega, HF2, dI, dR, dB⟩
                case measure => simp [intOf]; omega
            exact AllReadyH.nil
        · have ek : k = n := by omega
          have hd2 : decide ((k : Int) < (n : Int)) = false := by simp; omega
          have hp0 : pwF [] ids = 0 := by
            rw [← HF.out, ek, List.drop_of_length_le (by rw [HLn.out]; omega)]
            cases ids.take n <;> rfl
          have hw := HW2.out
          rw [if_pos hp0] at hw
          have hd3 : ¬ k < n := hlt
          have hc32 : wr.cell? ⟨X, 32, none⟩ = some (.slice A n C) := HX.out.cell (i := 32) (by omega)
          have hc33 : wr.cell? ⟨X, 33, none⟩ = some (.string au) := HX.out.cell (i := 33) (by omega)
          have hc35 : wr.cell? ⟨X, 35, none⟩ = some (.string ms) := HX.out.cell (i := 35) (by omega)
          have HW3 := Lib.hid hw
          clear hp0 HF HI HX ek HW2 hw
          by_cases ha : 1000 < au.size
          · have hda : decide ((1000 : Int) < (au.size : Int)) = true := by simp; omega
            have HA := Lib.hid ha
            clear ha
            go_wp2_with fail
            go_ret
            exact ⟨by rw [HW3.out, if_pos (.inl HA.out)]; rfl, by rw [← HXw.out]; exact HB.out⟩
          · have hda : decide ((1000 : Int) < (au.size : Int)) = false := by simp; omega
            by_cases hm : 1000 < ms.size
            · have hdm : decide ((1000 : Int) < (ms.size : Int)) = true := by simp; omega
              have HM := Lib.hid hm
              clear hm
              go_wp2_with fail
              go_ret
              exact ⟨by rw [HW3.out, if_pos (.inr HM.out)]; rfl, by rw [← HXw.out]; exact HB.out⟩
            · have hdm : decide ((1000 : Int) < (ms.size : Int)) = false := by simp; omega
              have HN := Lib.hid (show ¬ (1000 < au.size ∨ 1000 < ms.size) from fun h => h.elim ha hm)
              clear ha hm
              go_wp2_with fail
              go_ret
              exact ⟨by rw [HW3.out, if_neg HN.out]; rfl, by rw [← HXw.out]; exact HB.out⟩
end Go.Proofs.Ytmcmapgllaopmaa.Cd
