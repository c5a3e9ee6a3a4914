/- Texts of one's own, merged: CdWr, CdEc, CdRNum. -/
import Derived.Test.YtmcmapgllaopmaaMg
import Derived.Test.YtmcmapgllaopmaaMh

section
/- The document's wrong. -/
namespace Go.Proofs.Ytmcmapgllaopmaa.Cd
open Go.RowKit
set_option linter.unusedVariables false

set_option maxRecDepth 100000 in
set_option maxHeartbeats 2000000 in
theorem wrong_any (tr : List Int) (hl : tr.length = 32) (A : Option Addr) (n C : Nat) (ids : List (List Int)) (au : ByteArray) (tm : Int) (ms : ByteArray) (w : World) (h : RdIds w A n C ids) :
    Calls Try.prog 52 #[.agg (cm tr (.slice A n C) au tm ms).toArray] w fun e w' => e = .returned (.int .i64 (wE tr ids au ms)) ∧ Below w.heap.size w w' := by
  have hX := cm_row w tr (.slice A n C) au tm ms hl
  have hb0 := (Below.refl w.heap.size w).alloc (Nat.le_refl _) (.cells (cm tr (.slice A n C) au tm ms).toArray 40)
  have HI := Lib.hid (h.below hb0)
  have HB := Lib.hid hb0
  have HX := Lib.hid hX
  have hsX := hX.lt
  have HRg := Lib.hid (cm_tree hX hl)
  have HSz := Lib.hid (show (Try.prog.info? 37).map (·.size) = some (bv tr).length by rw [bv_len, hl]; kernel_rfl)
  have hq : ∀ W, (Op.equalIn 10000 37 (.agg (bv tr).toArray) (.agg (bv (List.replicate 32 0)).toArray)).run Try.prog W = .ok (decide (tr = List.replicate 32 0)) W := fun W => ids_none tr hl W
  have hz32 := zero32
  have hcap := h.cap
  have hmax := h.max
  have hbig := h.big
  have HLn := Lib.hid h.len
  have hw0 := wE tr ids au ms
  clear hw0
  have HW := Lib.hid (show wE tr ids au ms = if tr = List.replicate 32 0 then 1 else if 8 < ids.length then 4 else if pwF [] ids = 0 then (if 1000 < au.size ∨ 1000 < ms.size then 5 else 0) else pwF [] ids from rfl)
  clear hX hb0 h
  generalize hZI : (bv (List.replicate 32 0)).toArray = ZI at *
  have HZI := Lib.hid hZI
  clear hZI
  have hZl : ZI.size = 32 := by rw [← HZI.out]; simp [bv]
  have HZl := Lib.hid hZl
  clear hZl
  have hc32 : (w.alloc (.cells (cm tr (.slice A n C) au tm ms).toArray 40)).cell? ⟨w.heap.size, 32, none⟩ = some (.slice A n C) := HX.out.cell (i := 32) (by omega)
  have hc33 : (w.alloc (.cells (cm tr (.slice A n C) au tm ms).toArray 40)).cell? ⟨w.heap.size, 33, none⟩ = some (.string au) := HX.out.cell (i := 33) (by omega)
  have hc35 : (w.alloc (.cells (cm tr (.slice A n C) au tm ms).toArray 40)).cell? ⟨w.heap.size, 35, none⟩ = some (.string ms) := HX.out.cell (i := 35) (by omega)
  generalize hCM : cm tr (.slice A n C) au tm ms = CM at *
  clear hCM
  generalize hDI : bv tr = DI at *
  clear hDI
  go_enter Try.func52, Try.ntmps52
  have hag : (Value.agg CM.toArray).cells = CM.toArray := rfl
  go_upto_region 1 with (fail)
  generalize w.alloc (.cells CM.toArray 40) = w1 at *
  obtain ⟨X, hX⟩ : ∃ X, X = w.heap.size := ⟨_, rfl⟩
  rw [← hX] at HX HRg hsX hc32 hc33 hc35 HB ⊢
  have HXw := Lib.hid hX
  clear hX
  by_cases hz0 : tr = List.replicate 32 0
  · rw [decide_eq_true hz0] at hq
    have hw := HW.out
    rw [if_pos hz0] at hw
    have HW3 := Lib.hid hw
    clear hz0 HW hw
    go_wp2_with (refine wpList_load_mid rfl _ _ rfl X 0 rfl DI _ HRg.out Try.underlying37 rfl HSz.out ?_)
    go_ret
    exact ⟨by rw [HW3.out]; rfl, by rw [← HXw.out]; exact HB.out⟩
  · rw [decide_eq_false hz0] at hq
    by_cases h8 : 8 < n
    · have hw := HW.out
      rw [if_neg hz0, if_pos (by rw [HLn.out]; exact h8)] at hw
      have hd : decide ((8 : Int) < (n : Int)) = true := by simp; omega
      have HW3 := Lib.hid hw
      clear hz0 HW hw
      go_wp2_with (refine wpList_load_mid rfl _ _ rfl X 0 rfl DI _ HRg.out Try.underlying37 rfl HSz.out ?_)
      go_ret
      exact ⟨by rw [HW3.out]; rfl, by rw [← HXw.out]; exact HB.out⟩
    · have hw := HW.out
      rw [if_neg hz0, if_neg (by rw [HLn.out]; exact h8)] at hw
      have HW2 := Lib.hid hw
      have hd : decide ((8 : Int) < (n : Int)) = false := by simp; omega
      clear hz0 HW hw
      go_wp2_with (refine wpList_load_mid rfl _ _ rfl X 0 rfl DI _ HRg.out Try.underlying37 rfl HSz.out ?_)
      clear hc32 hc33 hc35 hq HRg
      go_loopw [3] (fun s wr => ∃ k : Nat, s = .int .i64 k ∧ k ≤ n ∧ Hid (pwF (ids.take k) (ids.drop k) = pwF [] ids) ∧ Hid (RdIds wr A n C ids) ∧ Hid (wr.rowIs X 40 36 (cmF tr (.slice A n C) au tm ms)) ∧ Hid (Below X w wr)) (fun s _ => n - (intOf s).toNat)
      case atStart => exact ⟨0, rfl, Nat.zero_le _, Lib.hid rfl, HI, HX, HB⟩
      case round =>
        clear HI HX HB
        obtain ⟨k, rfl, hk, HF, HI, HX, HB⟩ := hrel
        have hXw : X < wr.heap.size := HX.out.lt
        by_cases hlt : k < n
        · obtain ⟨g, o, rfl, hg, hc⟩ := HI.out.cell (by omega)
          have hst := pwF_step ids k (by have := HLn.out; omega)
          rw [HF.out] at hst
          have hpl := HI.out.ids _ (getD_mem (k := k) (by have := HLn.out; omega))
          have hpr := hc k hlt
          obtain ⟨p, hp⟩ : ∃ p, p = ids.getD k [] := ⟨_, rfl⟩
          rw [← hp] at hst hpl hpr
          have Hpl := Lib.hid hpl
          have HSt := Lib.hid hst
          have HPr := Lib.hid hpr
          have HES : Hid ((Try.prog.info? 37).map (·.size) = some (bv p).length) := Lib.hid (by rw [bv_len, hpl]; kernel_rfl)
          have hqp : ∀ W, (Op.equalIn 10000 37 (.agg (bv p).toArray) (.agg ZI)).run Try.prog W = .ok (decide (p = List.replicate 32 0)) W := fun W => by rw [← HZI.out]; exact ids_none p hpl W
          have hcx : wr.cell? ⟨X, 32, none⟩ = some (.slice (some ⟨g, o, none⟩) n C) := HX.out.cell (i := 32) (by omega)
          have hk0 : (0 : Int) ≤ (k : Int) := by omega
          have hk1 : (k : Int) < (n : Int) := by omega
          have hkn : k < n := hlt
          have hkC : k ≤ C := by omega
          have hkC2 : (k : Int) ≤ (C : Int) := by omega
          have hcpe : cp p (ids.take k) = if p = List.replicate 32 0 then 1 else if p ∈ ids.take k then 18 else 0 := rfl
          rw [hcpe] at hst
          clear hpl hpr hp hc HF hcpe
          by_cases hzp : p = List.replicate 32 0
          · rw [decide_eq_true hzp] at hqp
            rw [if_pos hzp, if_neg (by decide)] at hst
            have hw := HW2.out
            rw [if_neg (by rw [hst]; decide), hst] at hw
            have HW3 := Lib.hid hw
            clear hzp hst hw HW2 HSt
            go_wp2_with (refine wpList_load_mid rfl _ _ rfl g (o + k * 32) rfl (bv p) _ HPr.out Try.underlying37 rfl HES.out ?_)
            go_ret
            exact ⟨by rw [HW3.out]; rfl, by rw [← HXw.out]; exact HB.out⟩
          · rw [decide_eq_false hzp] at hqp
            rw [if_neg hzp] at hst
            clear HSt
            have HSt := Lib.hid hst
            clear hzp hst
            go_wp2_with (refine wpList_load_mid rfl _ _ rfl g (o + k * 32) rfl (bv p) _ HPr.out Try.underlying37 rfl HES.out ?_)
            have HIt : Hid (RdIds wr.drew (some ⟨g, o, none⟩) k C (ids.take k)) := Lib.hid (by
              have h := HI.out.take k hk
              exact ⟨h.cap, h.max, h.big, h.len, h.ids, h.cell⟩)
            have dX := Lib.hid ((World.rangeAt_drew _ _ _ _).2 HPr.out)
            have dR := Lib.hid (row_drew HX.out)
            have dI : Hid (RdIds wr.drew (some ⟨g, o, none⟩) n C ids) := Lib.hid ⟨HI.out.cap, HI.out.max, HI.out.big, HI.out.len, HI.out.ids, HI.out.cell⟩
            have dB := Lib.hid HB.out.drew
            have dC : Hid (wr.drew.cell? ⟨X, 32, none⟩ = some (.slice (some ⟨g, o, none⟩) n C)) := Lib.hid hcx
            have hgd : g < wr.drew.heap.size := hg
            clear HI HX HB HPr hqp hg hcx
            refine wp_region_noPanic ?_
            refine wp_region_held_drew (S := (fun wS => wS.rangeAt g (o + k * 32) (bv p) ∧ wS.cell? ⟨X, 32, none⟩ = some (.slice (some ⟨g, o, none⟩) n C))) (by kernel_rfl) ?_ (fun hHeld => ?_)
            · ((try dsimp only); exact ⟨dX.out, dC.out⟩)
            refine wpAnyH_take (i := 0) (oi := { dst := some 26, op := Op.fieldAddr 40 (Operand.tmp 1) 1, type := 0, pos := "ref.go:145", after := #[], guard := none }) (v := ?_) rfl (by kernel_rfl) (by kernel_rfl) (by kernel_rfl) (fun _ _ _ h => h) (Or.inl ⟨by rfl, ?_⟩) (by assumption) ?_
            rotate_left 1
            · ((intro w hSw; (try dsimp only at hSw); go_simp) <;> with_reducible rfl)
            (try simp only [Act.put, List.setIfInBounds_toArray, List.set_cons_zero, List.set_cons_succ])
            refine wpAnyH_take (i := 1) (oi := { dst := some 27, op := Op.load 38 (Operand.tmp 26), type := 38, pos := "ref.go:145", after := #[{ on := 0, ground := Ground.data }], guard := none }) (v := ?_) rfl (by kernel_rfl) (by kernel_rfl) (by kernel_rfl) (fun _ _ _ h => h) (Or.inl ⟨by rfl, ?_⟩) (by assumption) ?_
            rotate_left 1
            · ((intro w hSw; (try dsimp only at hSw); go_simp) <;> with_reducible rfl)
            (try simp only [Act.put, List.setIfInBounds_toArray, List.set_cons_zero, List.set_cons_succ])
            refine wpAnyH_take (i := 2) (oi := { dst := some 28, op := Op.move (Operand.tmp 3), type := 3, pos := "ref.go:145", after := #[], guard := none }) (v := ?_) rfl (by kernel_rfl) (by kernel_rfl) (by kernel_rfl) (fun _ _ _ h => h) (Or.inl ⟨by rfl, ?_⟩) (by assumption) ?_
            rotate_left 1
            · ((intro w hSw; (try dsimp only at hSw); go_simp) <;> with_reducible rfl)
            (try simp only [Act.put, List.setIfInBounds_toArray, List.set_cons_zero, List.set_cons_succ])
            refine wpAnyH_take (i := 3) (oi := { dst := some 29, op := Op.slice 38 (Operand.tmp 27) none (some (Operand.tmp 28)) none, type := 38, pos := "ref.go:145", after := #[{ on := 1, ground := Ground.data }, { on := 2, ground := Ground.data }], guard := none }) (v := ?_) rfl (by kernel_rfl) (by kernel_rfl) (by kernel_rfl) (fun _ _ _ h => h) (Or.inl ⟨by rfl, ?_⟩) (by assumption) ?_
            rotate_left 1
            · ((intro w hSw; (try dsimp only at hSw); go_simp) <;> with_reducible rfl)
            (try simp only [Act.put, List.setIfInBounds_toArray, List.set_cons_zero, List.set_cons_succ])
            refine wpAnyH_take (i := 4) (oi := { dst := some 30, op := Op.fieldAddr 40 (Operand.tmp 1) 1, type := 0, pos := "ref.go:145", after := #[], guard := none }) (v := ?_) rfl (by kernel_rfl) (by kernel_rfl) (by kernel_rfl) (fun _ _ _ h => h) (Or.inl ⟨by rfl, ?_⟩) (by assumption) ?_
            rotate_left 1
            · ((intro w hSw; (try dsimp only at hSw); go_simp) <;> with_reducible rfl)
            (try simp only [Act.put, List.setIfInBounds_toArray, List.set_cons_zero, List.set_cons_succ])
            refine wpAnyH_take (i := 5) (oi := { dst := some 31, op := Op.load 38 (Operand.tmp 30), type := 38, pos := "ref.go:145", after := #[{ on := 4, ground := Ground.data }], guard := none }) (v := ?_) rfl (by kernel_rfl) (by kernel_rfl) (by kernel_rfl) (fun _ _ _ h => h) (Or.inl ⟨by rfl, ?_⟩) (by assumption) ?_
            rotate_left 1
            · ((intro w hSw; (try dsimp only at hSw); go_simp) <;> with_reducible rfl)
            (try simp only [Act.put, List.setIfInBounds_toArray, List.set_cons_zero, List.set_cons_succ])
            refine wpAnyH_take (i := 6) (oi := { dst := some 32, op := Op.move (Operand.tmp 3), type := 3, pos := "ref.go:145", after := #[], guard := none }) (v := ?_) rfl (by kernel_rfl) (by kernel_rfl) (by kernel_rfl) (fun _ _ _ h => h) (Or.inl ⟨by rfl, ?_⟩) (by assumption) ?_
            rotate_left 1
            · ((intro w hSw; (try dsimp only at hSw); go_simp) <;> with_reducible rfl)
            (try simp only [Act.put, List.setIfInBounds_toArray, List.set_cons_zero, List.set_cons_succ])
            refine wpAnyH_take (i := 7) (oi := { dst := some 33, op := Op.indexAddr 38 (Operand.tmp 31) (Operand.tmp 32), type := 0, pos := "ref.go:145", after := #[{ on := 5, ground := Ground.data }, { on := 6, ground := Ground.data }], guard := none }) (v := ?_) rfl (by kernel_rfl) (by kernel_rfl) (by kernel_rfl) (fun _ _ _ h => h) (Or.inl ⟨by rfl, ?_⟩) (by assumption) ?_
            rotate_left 1
            · ((intro w hSw; (try dsimp only at hSw); go_simp) <;> with_reducible rfl)
            (try simp only [Act.put, List.setIfInBounds_toArray, List.set_cons_zero, List.set_cons_succ])
            refine' wpAnyH_take (i := 8) (oi := { dst := some 34, op := Op.load 37 (Operand.tmp 33), type := 37, pos := "ref.go:145", after := #[{ on := 7, ground := Ground.data }], guard := none }) (v := _) rfl (by kernel_rfl) (by kernel_rfl) (by kernel_rfl) (fun _ _ _ h => h) (yieldsIf_load_mid (by rfl) _ _ rfl _ _ rfl (bv p) _ (fun w hSw => hSw.1) Try.underlying37 rfl HES.out) (by assumption) ?_
            (try simp only [Act.put, List.setIfInBounds_toArray, List.set_cons_zero, List.set_cons_succ])
            refine wpAnyH_ready (rs := [9]) (by kernel_rfl) (by simp) ?_
            refine AllReadyH.cons (o := { dst := some 35, op := Op.call { callee := Callee.value (Operand.func 55), args := #[Operand.tmp 29, Operand.tmp 34], argTypes := #[38, 37] }, type := 4, pos := "ref.go:145", after := #[{ on := 3, ground := Ground.data }, { on := 8, ground := Ground.data }], guard := none }) rfl (fun K hK => ?_) ?_
            · go_simp
              refine (has_any (some ⟨g, o, none⟩) k C (ids.take k) p Hpl.out _ HIt.out).mono ?_
              rintro e w7 ⟨rfl, hb7⟩
              have eX := Lib.hid (range_below hb7 dX.out hgd)
              have eR := Lib.hid (World.rowIs.of_block dR.out (hb7.block X dR.out.lt))
              have eI := Lib.hid (dI.out.below hb7)
              have eB := Lib.hid (dB.out.trans (hb7.mono (Nat.le_of_lt dR.out.lt)))
              have eC : Hid (w7.cell? ⟨X, 32, none⟩ = some (.slice (some ⟨g, o, none⟩) n C)) := Lib.hid (eR.out.cell (i := 32) (by omega))
              clear dX dR dI dB dC hb7 hgd
              have dX := eX
              have dR := eR
              have dI := eI
              have dB := eB
              have dC := eC
              clear eX eR eI eB eC
              (try go_wp2_with fail)
              refine hK.out _ _ ?_ (fun hNew => ?_)
              · ((try dsimp only); exact ⟨dX.out, dC.out⟩)
              clear hK K hHeld
              have hHeld := hNew
              clear hNew
              (try simp only [Act.put, List.setIfInBounds_toArray, List.set_cons_zero, List.set_cons_succ])
              refine wpAnyH_done (by kernel_rfl) ?_ _
              refine NoPanic.normal ?_
              clear hHeld
              have hst := HSt.out
              by_cases hin : p ∈ ids.take k
              · rw [decide_eq_true hin]
                rw [if_pos hin, if_neg (by decide)] at hst
                have hw := HW2.out
                rw [if_neg (by rw [hst]; decide), hst] at hw
                have HW3 := Lib.hid hw
                clear hst HSt dX dC HW2 hw hin
                go_wp2_with fail
                go_ret
                exact ⟨by rw [HW3.out]; rfl, by rw [← HXw.out]; exact dB.out⟩
              · rw [decide_eq_false hin]
                rw [if_neg hin, if_pos rfl] at hst
                have HF2 := Lib.hid hst.symm
                clear hst HSt dX dC hin
                go_wp2_with fail
                go_roundw
                case rel => exact ⟨k + 1, by go_num, by omega, HF2, dI, dR, dB⟩
                case measure => simp [intOf]; omega
            exact AllReadyH.nil
        · have ek : k = n := by omega
          have hd2 : decide ((k : Int) < (n : Int)) = false := by simp; omega
          have hp0 : pwF [] ids = 0 := by
            rw [← HF.out, ek, List.drop_of_length_le (by rw [HLn.out]; omega)]
            cases ids.take n <;> rfl
          have hw := HW2.out
          rw [if_pos hp0] at hw
          have hd3 : ¬ k < n := hlt
          have hc32 : wr.cell? ⟨X, 32, none⟩ = some (.slice A n C) := HX.out.cell (i := 32) (by omega)
          have hc33 : wr.cell? ⟨X, 33, none⟩ = some (.string au) := HX.out.cell (i := 33) (by omega)
          have hc35 : wr.cell? ⟨X, 35, none⟩ = some (.string ms) := HX.out.cell (i := 35) (by omega)
          have HW3 := Lib.hid hw
          clear hp0 HF HI HX ek HW2 hw
          by_cases ha : 1000 < au.size
          · have hda : decide ((1000 : Int) < (au.size : Int)) = true := by simp; omega
            have HA := Lib.hid ha
            clear ha
            go_wp2_with fail
            go_ret
            exact ⟨by rw [HW3.out, if_pos (.inl HA.out)]; rfl, by rw [← HXw.out]; exact HB.out⟩
          · have hda : decide ((1000 : Int) < (au.size : Int)) = false := by simp; omega
            by_cases hm : 1000 < ms.size
            · have hdm : decide ((1000 : Int) < (ms.size : Int)) = true := by simp; omega
              have HM := Lib.hid hm
              clear hm
              go_wp2_with fail
              go_ret
              exact ⟨by rw [HW3.out, if_pos (.inr HM.out)]; rfl, by rw [← HXw.out]; exact HB.out⟩
            · have hdm : decide ((1000 : Int) < (ms.size : Int)) = false := by simp; omega
              have HN := Lib.hid (show ¬ (1000 < au.size ∨ 1000 < ms.size) from fun h => h.elim ha hm)
              clear ha hm
              go_wp2_with fail
              go_ret
              exact ⟨by rw [HW3.out, if_neg HN.out]; rfl, by rw [← HXw.out]; exact HB.out⟩
end Go.Proofs.Ytmcmapgllaopmaa.Cd
end

section
/- codec.EncodeCommit at any commit. -/
namespace Go.Proofs.Ytmcmapgllaopmaa.Cd
open Go.RowKit
set_option linter.unusedVariables false

/-- a commit's bytes -/
def cmB (tr : List Int) (ids : List (List Int)) (au : ByteArray) (tm : Int) (ms : ByteArray) : List Int :=
  tr ++ (ids.length : Int) :: (ids.flatten ++ (be 2 (au.size : Int) ++ (sv au ++ (be 8 (IntKind.u64.wrap tm) ++ (be 2 (ms.size : Int) ++ sv ms)))))
def ecR (tr : List Int) (ids : List (List Int)) (au : ByteArray) (tm : Int) (ms : ByteArray) : List Int := if wE tr ids au ms = 0 then cmB tr ids au tm ms else []
/-- what EncodeCommit hands back -/
def EcRet (tr : List Int) (ids : List (List Int)) (au : ByteArray) (tm : Int) (ms : ByteArray) (w : World) (e : Ending) (w' : World) : Prop :=
  Below w.heap.size w w' ∧ ∃ v, e = .returned (.tuple #[v, .int .i64 (wE tr ids au ms)]) ∧ w'.ownsRow w.heap.size 5 1 v (ecR tr ids au tm ms).length (bv (ecR tr ids au tm ms))
theorem wE_zero {tr : List Int} {ids : List (List Int)} {au ms : ByteArray} (h : wE tr ids au ms = 0) : ids.length ≤ 8 ∧ au.size ≤ 1000 ∧ ms.size ≤ 1000 := by
  unfold wE at h
  by_cases h1 : tr = List.replicate 32 0
  · rw [if_pos h1] at h; exact absurd h (by decide)
  · rw [if_neg h1] at h
    by_cases h2 : 8 < ids.length
    · rw [if_pos h2] at h; exact absurd h (by decide)
    · rw [if_neg h2] at h
      by_cases h3 : pwF [] ids = 0
      · rw [if_pos h3] at h
        by_cases h4 : 1000 < au.size ∨ 1000 < ms.size
        · rw [if_pos h4] at h; exact absurd h (by decide)
        · omega
      · rw [if_neg h3] at h; exact absurd h h3
theorem RdIds.belowB {w w' : World} {A : Option Addr} {n C B : Nat} {l : List (List Int)} (h : RdIds w A n C l) (hb : Below B w w') (hA : ∀ x, A = some x → 0 < n → x.block < B) : RdIds w' A n C l :=
  ⟨h.cap, h.max, h.big, h.len, h.ids, fun h0 => by
    obtain ⟨g, o, h1, h2, h3⟩ := h.cell h0
    exact ⟨g, o, h1, Nat.lt_of_lt_of_le h2 hb.size, fun i hi => range_below hb (h3 i hi) (hA _ h1 h0)⟩⟩
theorem flat_step (ids : List (List Int)) (k : Nat) (hk : k < ids.length) : (ids.take (k + 1)).flatten = (ids.take k).flatten ++ ids.getD k [] := by
  have hx : ids.getD k [] = ids[k] := by simp [List.getD, hk]
  rw [List.take_succ_eq_append_getElem hk, hx, List.flatten_append]
  simp only [List.flatten_cons, List.flatten_nil, List.append_nil]
theorem flat_len : ∀ (l : List (List Int)), (∀ x ∈ l, x.length = 32) → l.flatten.length = l.length * 32
  | [], _ => rfl
  | x :: l, h => by
    rw [List.flatten_cons, List.length_append, h x (by simp), flat_len l (fun y hy => h y (List.mem_cons_of_mem _ hy)), List.length_cons]
    omega
theorem own_none' (w : World) (B : Nat) : w.ownsRow B 5 1 (.slice none 0 0) 0 (bv []) := ⟨rfl, .inl ⟨rfl, rfl⟩⟩
theorem cm_range {w : World} {X : Nat} {tr : List Int} {ps : Value} {au : ByteArray} {tm : Int} {ms : ByteArray} (h : w.rowIs X 40 36 (cmF tr ps au tm ms)) (hl : tr.length = 32) : w.rangeAt X 0 (cm tr ps au tm ms) := fun j v hj => by
  have hl2 := (List.getElem?_eq_some_iff.1 hj).1
  rw [cm_len _ _ _ _ _ hl] at hl2
  rw [Nat.zero_add, h.cell hl2, ← hj, cm_get tr _ _ _ _ hl j hl2]

set_option maxRecDepth 100000 in
set_option maxHeartbeats 2000000 in
theorem encodeCommit_any (tr : List Int) (hl : tr.length = 32) (A : Option Addr) (n C : Nat) (ids : List (List Int)) (au : ByteArray) (tm : Int) (ms : ByteArray) (w : World) (h : RdIds w A n C ids) :
    Calls Try.prog 17 #[.agg (cm tr (.slice A n C) au tm ms).toArray] w (EcRet tr ids au tm ms w) := by
  obtain ⟨i0, hi, hz0, hz1, hz2⟩ := info_parts info5
  have hX := cm_row w tr (.slice A n C) au tm ms hl
  have hb0 := (Below.refl w.heap.size w).alloc (Nat.le_refl _) (.cells (cm tr (.slice A n C) au tm ms).toArray 40)
  have HLt : Hid (∀ x, A = some x → 0 < n → x.block < w.heap.size) := Lib.hid (fun x hx h0 => by
    obtain ⟨g, o, h1, h2, -⟩ := h.cell h0
    rw [h1] at hx
    obtain rfl := Option.some.inj hx
    exact h2)
  have HI := Lib.hid (h.below hb0)
  have HB := Lib.hid hb0
  have HX := Lib.hid hX
  have HRg := Lib.hid (cm_range hX hl)
  have HSz := Lib.hid (show (Try.prog.info? 40).map (·.size) = some (cm tr (.slice A n C) au tm ms).length by rw [cm_len _ _ _ _ _ hl]; kernel_rfl)
  have HCk := Lib.hid (checkCommit_any tr hl A n C ids au tm ms _ (h.below hb0))
  have hcap := h.cap
  have hmax := h.max
  have hbig := h.big
  have HLn := Lib.hid h.len
  have HI0 := Lib.hid h.ids
  have hz32 := zero32
  have HTl := Lib.hid hl
  clear hX hb0 h
  generalize hZI : (bv (List.replicate 32 0)).toArray = ZI at *
  have hZl : ZI.size = 32 := by rw [← hZI]; simp [bv]
  have HZl := Lib.hid hZl
  clear hZl hZI
  generalize hCM : cm tr (.slice A n C) au tm ms = CM at *
  clear hCM
  go_enter Try.func17, Try.ntmps17
  have hag : (Value.agg CM.toArray).cells = CM.toArray := rfl
  go_upto_region 1 with (fail)
  generalize w.alloc (.cells CM.toArray 40) = w1 at *
  obtain ⟨X, hX⟩ : ∃ X, X = w.heap.size := ⟨_, rfl⟩
  rw [← hX] at HX HRg HB HLt ⊢
  have HXw := Lib.hid hX
  clear hX hag
  obtain ⟨E, hE⟩ : ∃ E, E = wE tr ids au ms := ⟨_, rfl⟩
  rw [← hE] at HCk
  have HE := Lib.hid hE
  have hXs := HX.out.lt
  clear hE
  go_wp2_with (refine wpList_load_mid rfl _ _ rfl X 0 rfl CM _ HRg.out Try.underlying40 rfl HSz.out ?_)
  refine HCk.out.mono ?_
  rintro e w2 ⟨rfl, hb⟩
  have HI2 := Lib.hid (HI.out.below hb)
  have HB2 := Lib.hid (HB.out.trans (hb.mono (Nat.le_of_lt hXs)))
  have HX2 := Lib.hid (World.rowIs.of_block HX.out (hb.block X hXs))
  clear hb HI HB HX HRg HSz HCk hXs
  by_cases h0 : E = 0
  · have hE0 : (E != 0) = false := by simp [h0]
    have H0 := Lib.hid (HE.out.symm.trans h0)
    have hwz := wE_zero H0.out
    have hn8 : n ≤ 8 := by have := hwz.1; have := HLn.out; omega
    have ha1 := hwz.2.1
    have hm1 := hwz.2.2
    have HT2 : Hid (∀ j u, (bv tr)[j]? = some u → w2.cell? ((⟨X, 0, none⟩ : Addr).add j) = some u) := Lib.hid (fun j u hj => by
      have := cm_tree HX2.out HTl.out j u hj
      rw [Addr.add_mid]
      exact this)
    have HTz : Hid ((bv tr).length = 32 * 1) := Lib.hid (by rw [bv_len, HTl.out])
    have hXB : X ≤ w2.heap.size := Nat.le_of_lt HX2.out.lt
    clear h0 hwz
    go_wp2_with (at_builtin; refine wpList_append_own _ rfl _ _ 23 rfl X 5 i0 (.int .u8 0) 1 1 Try.underlying23 hi hz0 hz1 hz2 rfl (by decide) _ 0 (bv []) rfl (own_none' w2 X) ⟨X, 0, none⟩ 32 32 (bv tr) rfl HTz.out HT2.out (bv_one _) ?c3 ?c4 ?c5 ?_)
    case c3 => unfold maxLen; omega
    case c4 => omega
    case c5 => exact hXB
    intro v3 w3 ho hg hnil
    have hb3 := below_grown hXB (own_none' w2 X) hg
    have hk3 := KeptT.own (own_none' w2 X) hg
    have HO3 : Hid (w3.ownsRow X 5 1 v3 32 (bv tr)) := Lib.hid (own_eq ho (by simp [bv]) (by omega))
    have HI3 := Lib.hid (HI2.out.belowB hb3 HLt.out)
    have HX3 := Lib.hid (hk3.row HX2.out (by decide))
    have HB3 := Lib.hid (HB2.out.trans hb3)
    have hX3 : X ≤ w3.heap.size := Nat.le_of_lt HX3.out.lt
    have hc32 : w3.cell? ⟨X, 32, none⟩ = some (.slice A n C) := HX3.out.cell (i := 32) (by omega)
    have hwn : IntKind.u8.wrap (n : Int) = (n : Int) := IntWalk.u8_in _ (by omega)
    clear ho hg hnil hb3 hk3 HI2 HX2 HB2 hXB HT2 HTz
    go_wp2_with (at_builtin; refine wpList_append_own _ rfl _ _ 23 rfl X 5 i0 (.int .u8 0) 1 1 Try.underlying23 hi hz0 hz1 hz2 rfl (by decide) _ 32 (bv tr) rfl (own_keep HO3.out ((Below.refl w3.heap.size w3).alloc (Nat.le_refl _) (.cells (bv [(n : Int)]).toArray 5))) ⟨w3.heap.size, 0, none⟩ 1 1 (bv [(n : Int)]) rfl rfl ?d1 (bv_one _) ?d3 ?d4 ?d5 ?_)
    case d1 => exact new_cells [(n : Int)] w3 _
    case d3 => unfold maxLen; omega
    case d4 => omega
    case d5 => exact Nat.le_trans hX3 (al_le w3 _)
    intro v4 w4 ho hg hnil
    have hoa := own_keep HO3.out ((Below.refl w3.heap.size w3).alloc (Nat.le_refl _) (.cells (bv [(n : Int)]).toArray 5))
    have hb4 : Below X w3 w4 := ((Below.refl X w3).alloc hX3 (.cells (bv [(n : Int)]).toArray 5)).trans (below_grown (Nat.le_trans hX3 (al_le w3 _)) hoa hg)
    have hk4 : KeptT w3 w4 := KeptT.trans (al_le w3 _) (KeptT.alloc w3 _) (KeptT.own hoa hg)
    have HO4 : Hid (w4.ownsRow X 5 1 v4 (33 + 0 * 32) (bv (tr ++ (n : Int) :: (ids.take 0).flatten))) := Lib.hid (own_eq ho (by simp [bv]) (by omega))
    have HI4 := Lib.hid (HI3.out.belowB hb4 HLt.out)
    have HX4 := Lib.hid (hk4.row HX3.out (by decide))
    have HB4 := Lib.hid (HB3.out.trans hb4)
    have hc32 : w4.cell? ⟨X, 32, none⟩ = some (.slice A n C) := HX4.out.cell (i := 32) (by omega)
    clear ho hg hnil hoa hb4 hk4 HI3 HX3 HB3 HO3 hX3
    go_wp2_with fail
    clear hc32
    go_loopw [5, 26] (fun b i wr => ∃ k : Nat, i = .int .i64 k ∧ k ≤ n ∧ Hid (wr.ownsRow X 5 1 b (33 + k * 32) (bv (tr ++ (n : Int) :: (ids.take k).flatten))) ∧ Hid (RdIds wr A n C ids) ∧ Hid (wr.rowIs X 40 36 (cmF tr (.slice A n C) au tm ms)) ∧ Hid (Below X w wr)) (fun _ i _ => n - (intOf i).toNat)
    case atStart => exact ⟨0, rfl, Nat.zero_le _, HO4, HI4, HX4, HB4⟩
    case round =>
      clear HO4 HI4 HX4 HB4
      obtain ⟨k, rfl, hk, HO, HI, HX, HB⟩ := hrel
      have hXw : X < wr.heap.size := HX.out.lt
      by_cases hlt : k < n
      · obtain ⟨g, o, rfl, hg, hc⟩ := HI.out.cell (by omega)
        have hpl := HI.out.ids _ (getD_mem (k := k) (by have := HLn.out; omega))
        have hpr := hc k hlt
        have hfs := flat_step ids k (by have := HLn.out; omega)
        obtain ⟨p, hp⟩ : ∃ p, p = ids.getD k [] := ⟨_, rfl⟩
        rw [← hp] at hpl hpr hfs
        have Hpl := Lib.hid hpl
        have HPr := Lib.hid hpr
        have HFs := Lib.hid hfs
        have HES : Hid ((Try.prog.info? 37).map (·.size) = some (bv p).length) := Lib.hid (by rw [bv_len, hpl]; kernel_rfl)
        have hyr := row_new wr ZI 37
        rw [HZl.out] at hyr
        have HTh : Hid ((wr.alloc (.cells ZI 37)).there wr.heap.size 0 (bv p).toArray.size) := Lib.hid (fun j hj => by
          rw [List.size_toArray, bv_len, hpl] at hj
          rw [Nat.zero_add]
          exact ⟨by rw [hyr.cell hj]; rfl, hyr.frozen _⟩)
        have HSz2 : Hid ((Try.prog.info? 37).map (·.size) = some (bv p).toArray.size) := Lib.hid (by rw [List.size_toArray]; exact HES.out)
        have HOne := Lib.hid (all_oneCell_toArray (bv_one p))
        have hry := World.rangeAt_setCells_same (wr.alloc (.cells ZI 37)) wr.heap.size 0 (bv p) (by have := HTh.out; rwa [List.size_toArray] at this)
        have HRy : Hid (∀ j u, (bv p)[j]? = some u → ((wr.alloc (.cells ZI 37)).setCells wr.heap.size 0 (bv p)).cell? ((⟨wr.heap.size, 0, none⟩ : Addr).add j) = some u) := Lib.hid (fun j u hj => by rw [Addr.add_mid]; exact hry j u hj)
        have hb5 := below_cells (Nat.le_refl wr.heap.size) (bv p) 0 _ ((Below.refl wr.heap.size wr).alloc (Nat.le_refl _) (.cells ZI 37))
        have HO5 := Lib.hid (own_keep HO.out hb5)
        have HI5 := Lib.hid (HI.out.below hb5)
        have HX5 := Lib.hid (World.rowIs.of_block HX.out (hb5.block X hXw))
        have HB5 := Lib.hid (HB.out.trans (hb5.mono (Nat.le_of_lt hXw)))
        have hk0 : (0 : Int) ≤ (k : Int) := by omega
        have hk1 : (k : Int) < (n : Int) := by omega
        have HPz : Hid ((bv p).length = 32 * 1) := Lib.hid (by rw [bv_len, hpl])
        clear hyr hb5 hpl hpr hp hc hry hfs HO HI HX HB hg
        go_upto_region 9 with (first
          | (refine wpList_load_mid rfl _ _ rfl g (o + k * 32) rfl (bv p) _ HPr.out Try.underlying37 rfl HES.out ?_)
          | (refine wpList_store_mid rfl _ _ _ rfl wr.heap.size 0 (bv p).toArray rfl rfl HTh.out HSz2.out HOne.out ?_))
        change Code.wp _ _ _ _ ((wr.alloc (.cells ZI 37)).setCells wr.heap.size 0 (bv p))
        have hX5 : X ≤ ((wr.alloc (.cells ZI 37)).setCells wr.heap.size 0 (bv p)).heap.size := Nat.le_of_lt HX5.out.lt
        clear HTh HSz2 HOne HPr
        generalize (wr.alloc (.cells ZI 37)).setCells wr.heap.size 0 (bv p) = w5 at *
        generalize wr.heap.size = Y at *
        go_wp2_with (at_builtin; refine wpList_append_own _ rfl _ _ 23 rfl X 5 i0 (.int .u8 0) 1 1 Try.underlying23 hi hz0 hz1 hz2 rfl (by decide) _ _ _ rfl HO5.out ⟨Y, 0, none⟩ 32 32 (bv p) rfl HPz.out HRy.out (bv_one _) ?e3 ?e4 ?e5 ?_)
        case e3 => unfold maxLen; omega
        case e4 => omega
        case e5 => exact hX5
        intro v6 w6 ho hg hnil
        have hb6 := below_grown hX5 HO5.out hg
        have hk6 := KeptT.own HO5.out hg
        have HO6 : Hid (w6.ownsRow X 5 1 v6 (33 + (k + 1) * 32) (bv (tr ++ (n : Int) :: (ids.take (k + 1)).flatten))) := Lib.hid (own_eq ho (by rw [HFs.out]; simp [bv]) (by omega))
        have HI6 := Lib.hid (HI5.out.belowB hb6 HLt.out)
        have HX6 := Lib.hid (hk6.row HX5.out (by decide))
        have HB6 := Lib.hid (HB5.out.trans hb6)
        clear ho hg hnil hb6 hk6 HO5 HI5 HX5 HB5 HRy hX5 HPz
        go_wp2_with fail
        go_roundw
        case rel => exact ⟨k + 1, by go_num, by omega, HO6, HI6, HX6, HB6⟩
        case measure => simp [intOf]; omega
      · have ek : k = n := by omega
        have hd2 : decide ((k : Int) < (n : Int)) = false := by simp; omega
        have hd3 : ¬ k < n := hlt
        have hfl : (ids.take k).flatten = ids.flatten := by rw [ek, List.take_of_length_le (by have := HLn.out; omega)]
        have ho0 := HO.out
        rw [hfl] at ho0
        have HO0 := Lib.hid ho0
        have hc33 : wr.cell? ⟨X, 33, none⟩ = some (.string au) := HX.out.cell (i := 33) (by omega)
        have hXl : X ≤ wr.heap.size := Nat.le_of_lt hXw
        have HTa := Lib.hid (text_k X _ (33 + k * 32) (bv (tr ++ (n : Int) :: ids.flatten)) au 2 wr hXl HO0.out (by omega) (by omega) (by omega))
        rw [show ((2 : Nat) : Int) = 2 from rfl] at HTa
        clear hfl ho0 HO ek
        go_wp2_with fail
        refine HTa.out.mono ?_
        rintro e w7 ⟨v7, rfl, ho, hb, hk7⟩
        have HO7 := Lib.hid ho
        have HX7 := Lib.hid (hk7.row HX.out (by decide))
        have HB7 := Lib.hid (HB.out.trans hb)
        have hX7 : X ≤ w7.heap.size := Nat.le_of_lt HX7.out.lt
        have hc34 : w7.cell? ⟨X, 34, none⟩ = some (.int .i64 tm) := HX7.out.cell (i := 34) (by omega)
        have hu0 : 0 ≤ IntKind.u64.wrap tm ∧ IntKind.u64.wrap tm < 18446744073709551616 := by rw [IntKind.wrap_u64]; omega
        have HNb := Lib.hid (number_k X v7 _ _ (IntKind.u64.wrap tm) 8 w7 hX7 HO7.out (by omega) hu0.1 hu0.2 (by omega))
        rw [show ((8 : Nat) : Int) = 8 from rfl] at HNb
        clear ho hb hk7 HTa HO0 HX HB HI hc33 hu0
        go_wp2_with fail
        refine HNb.out.mono ?_
        rintro e w8 ⟨v8, rfl, ho, hb, hk8⟩
        have HO8 := Lib.hid ho
        have HX8 := Lib.hid (hk8.row HX7.out (by decide))
        have HB8 := Lib.hid (HB7.out.trans hb)
        have hX8 : X ≤ w8.heap.size := Nat.le_of_lt HX8.out.lt
        have hc35 : w8.cell? ⟨X, 35, none⟩ = some (.string ms) := HX8.out.cell (i := 35) (by omega)
        have HTm := Lib.hid (text_k X v8 _ _ ms 2 w8 hX8 HO8.out (by omega) (by omega) (by omega))
        rw [show ((2 : Nat) : Int) = 2 from rfl] at HTm
        clear ho hb hk8 HNb HO7 HX7 HB7 hc34
        go_wp2_with fail
        refine HTm.out.mono ?_
        rintro e w9 ⟨v9, rfl, ho, hb, -⟩
        have HR : Hid (ecR tr ids au tm ms = cmB tr ids au tm ms) := Lib.hid (by unfold ecR; rw [if_pos H0.out])
        have HLc : Hid ((cmB tr ids au tm ms).length = 33 + k * 32 + 2 + au.size + 8 + 2 + ms.size) := Lib.hid (by
          have hfl := flat_len ids HI0.out
          have h1 := HTl.out
          have h2 := HLn.out
          simp only [cmB, List.length_append, List.length_cons, hfl, be_length, sv_len]
          omega)
        have HO9 : Hid (w9.ownsRow X 5 1 v9 (cmB tr ids au tm ms).length (bv (cmB tr ids au tm ms))) := Lib.hid (own_eq ho (by rw [← sv_cells, ← sv_cells]; simp [cmB, bv, HLn.out]) (by rw [HLc.out]))
        have HB9 := Lib.hid (HB8.out.trans hb)
        clear ho hb HTm HO8 HX8 HB8 hc35
        go_wp2_with fail
        go_ret2
        refine ⟨by rw [← HXw.out]; exact HB9.out, v9, ?_, ?_⟩
        · rw [H0.out]; rfl
        · rw [HR.out, ← HXw.out]; exact HO9.out
  · have hE0 : (E != 0) = true := by simp [h0]
    have H0 : Hid (ecR tr ids au tm ms = []) := Lib.hid (by unfold ecR; rw [if_neg (fun e => h0 (HE.out.trans e))])
    clear h0
    go_wp2_with fail
    go_ret2
    refine ⟨by rw [← HXw.out]; exact HB2.out, .slice none 0 0, ?_, ?_⟩
    · rw [← HE.out]; rfl
    · rw [H0.out]; exact own_nil _ _
end Go.Proofs.Ytmcmapgllaopmaa.Cd
end

section
/- The document's Num. -/
namespace Go.Proofs.Ytmcmapgllaopmaa.Cd
open Go.RowKit
set_option linter.unusedVariables false

set_option maxHeartbeats 1000000 in
theorem rnum_k (B : Nat) (v : Value) (n : Nat) (xs : List Value) (x : Int) (k : Nat) (w : World) (hB : B ≤ w.heap.size) (hown : w.ownsRow B 5 1 v n xs) (hn : n ≤ 140737488300000) (h0 : 0 ≤ x) (h1 : x < 18446744073709551616) (hk : k ≤ 8) :
    Calls Try.prog 53 #[v, .int .i64 k, .int .u64 x] w (OwnRetK B (n + k) (xs ++ bv (be k x)) w) := by
  obtain ⟨i0, hi, hz0, hz1, hz2⟩ := info_parts info5
  have HO := Lib.hid hown
  clear hown
  have HB := Lib.hid (Below.refl B w)
  have HK := Lib.hid (KeptT.refl w)
  go_enter Try.func53, Try.ntmps53
  go_wp2
  go_loopw [0, 7] (fun b i wr => ∃ (m q : Nat) (ys : List Int), m + q = k ∧ i = .int .i64 ((m : Int) - 1) ∧ Hid (ys ++ be m x = be k x) ∧ Hid (wr.ownsRow B 5 1 b (n + q) (xs ++ bv ys)) ∧ Hid (Below B w wr) ∧ Hid (KeptT w wr)) (fun _ i _ => (intOf i + 1).toNat)
  case atStart => exact ⟨k, 0, [], by omega, rfl, Lib.hid rfl, Lib.hid (by simpa [bv] using HO.out), HB, HK⟩
  case round =>
    clear HB HO HK
    obtain ⟨m, q, ys, hmq, rfl, HY, HO, HB, HK⟩ := hrel
    have hsz := HB.out.size
    have hkw : w.heap.size ≤ wr.heap.size := HB.out.size
    have hm8 : m ≤ 8 := by omega
    have h56 : x / 72057594037927936 % 256 = x / 72057594037927936 := by omega
    rcases (show m = 0 ∨ m = 1 ∨ m = 2 ∨ m = 3 ∨ m = 4 ∨ m = 5 ∨ m = 6 ∨ m = 7 ∨ m = 8 from by omega) with rfl | rfl | rfl | rfl | rfl | rfl | rfl | rfl | rfl
    · go_wp2
      go_ret
      have hq : q = k := by omega
      subst hq
      refine ⟨_, rfl, own_eq HO.out ?_ rfl, HB.out, HK.out⟩
      rw [← HY.out]; simp [be]
    · go_wp2_with (at_builtin; refine wpList_append_own _ rfl _ _ 23 rfl B 5 i0 (.int .u8 0) 1 1 Try.underlying23 hi hz0 hz1 hz2 rfl (by decide) _ _ _ rfl (HO.out.alloc _) ⟨wr.heap.size, 0, none⟩ 1 1 (bv [x % 256]) rfl rfl ?c1 (bv_one _) ?c3 ?c4 ?c5 ?_)
      case c1 => exact new_cells [x % 256] wr _
      case c3 => unfold maxLen; omega
      case c4 => omega
      case c5 => simp; omega
      intro v1 w1 ho hg hn2
      have HO1 : Hid (w1.ownsRow B 5 1 v1 (n + (q + 1)) (xs ++ bv (ys ++ [x % 256]))) := Lib.hid (own_eq ho (by simp [bv]) (by omega))
      have HB1 := Lib.hid (HB.out.trans (((Below.refl B wr).alloc (by omega) _).trans (below_grown (by simp; omega) (HO.out.alloc _) hg)))
      have HK1 := Lib.hid (KeptT.trans hkw HK.out (KeptT.trans (al_le wr _) (KeptT.alloc wr _) (KeptT.own (HO.out.alloc _) hg)))
      have HY1 : Hid ((ys ++ [x % 256]) ++ be 0 x = be k x) := Lib.hid (by rw [← HY.out]; simp [be])
      clear ho hg hn2 HO HB HY HK
      go_wp2
      go_roundw
      case rel => exact ⟨0, q + 1, _, by omega, rfl, HY1, HO1, HB1, HK1⟩
      case measure => simp [intOf]
    · go_wp2_with (at_builtin; refine wpList_append_own _ rfl _ _ 23 rfl B 5 i0 (.int .u8 0) 1 1 Try.underlying23 hi hz0 hz1 hz2 rfl (by decide) _ _ _ rfl (HO.out.alloc _) ⟨wr.heap.size, 0, none⟩ 1 1 (bv [x / 256 % 256]) rfl rfl ?c1 (bv_one _) ?c3 ?c4 ?c5 ?_)
      case c1 => exact new_cells [x / 256 % 256] wr _
      case c3 => unfold maxLen; omega
      case c4 => omega
      case c5 => simp; omega
      intro v1 w1 ho hg hn2
      have HO1 : Hid (w1.ownsRow B 5 1 v1 (n + (q + 1)) (xs ++ bv (ys ++ [x / 256 % 256]))) := Lib.hid (own_eq ho (by simp [bv]) (by omega))
      have HB1 := Lib.hid (HB.out.trans (((Below.refl B wr).alloc (by omega) _).trans (below_grown (by simp; omega) (HO.out.alloc _) hg)))
      have HK1 := Lib.hid (KeptT.trans hkw HK.out (KeptT.trans (al_le wr _) (KeptT.alloc wr _) (KeptT.own (HO.out.alloc _) hg)))
      have HY1 : Hid ((ys ++ [x / 256 % 256]) ++ be 1 x = be k x) := Lib.hid (by rw [← HY.out]; simp [be])
      clear ho hg hn2 HO HB HY HK
      go_wp2
      go_roundw
      case rel => exact ⟨1, q + 1, _, by omega, rfl, HY1, HO1, HB1, HK1⟩
      case measure => simp [intOf]
    · go_wp2_with (at_builtin; refine wpList_append_own _ rfl _ _ 23 rfl B 5 i0 (.int .u8 0) 1 1 Try.underlying23 hi hz0 hz1 hz2 rfl (by decide) _ _ _ rfl (HO.out.alloc _) ⟨wr.heap.size, 0, none⟩ 1 1 (bv [x / 65536 % 256]) rfl rfl ?c1 (bv_one _) ?c3 ?c4 ?c5 ?_)
      case c1 => exact new_cells [x / 65536 % 256] wr _
      case c3 => unfold maxLen; omega
      case c4 => omega
      case c5 => simp; omega
      intro v1 w1 ho hg hn2
      have HO1 : Hid (w1.ownsRow B 5 1 v1 (n + (q + 1)) (xs ++ bv (ys ++ [x / 65536 % 256]))) := Lib.hid (own_eq ho (by simp [bv]) (by omega))
      have HB1 := Lib.hid (HB.out.trans (((Below.refl B wr).alloc (by omega) _).trans (below_grown (by simp; omega) (HO.out.alloc _) hg)))
      have HK1 := Lib.hid (KeptT.trans hkw HK.out (KeptT.trans (al_le wr _) (KeptT.alloc wr _) (KeptT.own (HO.out.alloc _) hg)))
      have HY1 : Hid ((ys ++ [x / 65536 % 256]) ++ be 2 x = be k x) := Lib.hid (by rw [← HY.out]; simp [be])
      clear ho hg hn2 HO HB HY HK
      go_wp2
      go_roundw
      case rel => exact ⟨2, q + 1, _, by omega, rfl, HY1, HO1, HB1, HK1⟩
      case measure => simp [intOf]
    · go_wp2_with (at_builtin; refine wpList_append_own _ rfl _ _ 23 rfl B 5 i0 (.int .u8 0) 1 1 Try.underlying23 hi hz0 hz1 hz2 rfl (by decide) _ _ _ rfl (HO.out.alloc _) ⟨wr.heap.size, 0, none⟩ 1 1 (bv [x / 16777216 % 256]) rfl rfl ?c1 (bv_one _) ?c3 ?c4 ?c5 ?_)
      case c1 => exact new_cells [x / 16777216 % 256] wr _
      case c3 => unfold maxLen; omega
      case c4 => omega
      case c5 => simp; omega
      intro v1 w1 ho hg hn2
      have HO1 : Hid (w1.ownsRow B 5 1 v1 (n + (q + 1)) (xs ++ bv (ys ++ [x / 16777216 % 256]))) := Lib.hid (own_eq ho (by simp [bv]) (by omega))
      have HB1 := Lib.hid (HB.out.trans (((Below.refl B wr).alloc (by omega) _).trans (below_grown (by simp; omega) (HO.out.alloc _) hg)))
      have HK1 := Lib.hid (KeptT.trans hkw HK.out (KeptT.trans (al_le wr _) (KeptT.alloc wr _) (KeptT.own (HO.out.alloc _) hg)))
      have HY1 : Hid ((ys ++ [x / 16777216 % 256]) ++ be 3 x = be k x) := Lib.hid (by rw [← HY.out]; simp [be])
      clear ho hg hn2 HO HB HY HK
      go_wp2
      go_roundw
      case rel => exact ⟨3, q + 1, _, by omega, rfl, HY1, HO1, HB1, HK1⟩
      case measure => simp [intOf]
    · go_wp2_with (at_builtin; refine wpList_append_own _ rfl _ _ 23 rfl B 5 i0 (.int .u8 0) 1 1 Try.underlying23 hi hz0 hz1 hz2 rfl (by decide) _ _ _ rfl (HO.out.alloc _) ⟨wr.heap.size, 0, none⟩ 1 1 (bv [x / 4294967296 % 256]) rfl rfl ?c1 (bv_one _) ?c3 ?c4 ?c5 ?_)
      case c1 => exact new_cells [x / 4294967296 % 256] wr _
      case c3 => unfold maxLen; omega
      case c4 => omega
      case c5 => simp; omega
      intro v1 w1 ho hg hn2
      have HO1 : Hid (w1.ownsRow B 5 1 v1 (n + (q + 1)) (xs ++ bv (ys ++ [x / 4294967296 % 256]))) := Lib.hid (own_eq ho (by simp [bv]) (by omega))
      have HB1 := Lib.hid (HB.out.trans (((Below.refl B wr).alloc (by omega) _).trans (below_grown (by simp; omega) (HO.out.alloc _) hg)))
      have HK1 := Lib.hid (KeptT.trans hkw HK.out (KeptT.trans (al_le wr _) (KeptT.alloc wr _) (KeptT.own (HO.out.alloc _) hg)))
      have HY1 : Hid ((ys ++ [x / 4294967296 % 256]) ++ be 4 x = be k x) := Lib.hid (by rw [← HY.out]; simp [be])
      clear ho hg hn2 HO HB HY HK
      go_wp2
      go_roundw
      case rel => exact ⟨4, q + 1, _, by omega, rfl, HY1, HO1, HB1, HK1⟩
      case measure => simp [intOf]
    · go_wp2_with (at_builtin; refine wpList_append_own _ rfl _ _ 23 rfl B 5 i0 (.int .u8 0) 1 1 Try.underlying23 hi hz0 hz1 hz2 rfl (by decide) _ _ _ rfl (HO.out.alloc _) ⟨wr.heap.size, 0, none⟩ 1 1 (bv [x / 1099511627776 % 256]) rfl rfl ?c1 (bv_one _) ?c3 ?c4 ?c5 ?_)
      case c1 => exact new_cells [x / 1099511627776 % 256] wr _
      case c3 => unfold maxLen; omega
      case c4 => omega
      case c5 => simp; omega
      intro v1 w1 ho hg hn2
      have HO1 : Hid (w1.ownsRow B 5 1 v1 (n + (q + 1)) (xs ++ bv (ys ++ [x / 1099511627776 % 256]))) := Lib.hid (own_eq ho (by simp [bv]) (by omega))
      have HB1 := Lib.hid (HB.out.trans (((Below.refl B wr).alloc (by omega) _).trans (below_grown (by simp; omega) (HO.out.alloc _) hg)))
      have HK1 := Lib.hid (KeptT.trans hkw HK.out (KeptT.trans (al_le wr _) (KeptT.alloc wr _) (KeptT.own (HO.out.alloc _) hg)))
      have HY1 : Hid ((ys ++ [x / 1099511627776 % 256]) ++ be 5 x = be k x) := Lib.hid (by rw [← HY.out]; simp [be])
      clear ho hg hn2 HO HB HY HK
      go_wp2
      go_roundw
      case rel => exact ⟨5, q + 1, _, by omega, rfl, HY1, HO1, HB1, HK1⟩
      case measure => simp [intOf]
    · go_wp2_with (at_builtin; refine wpList_append_own _ rfl _ _ 23 rfl B 5 i0 (.int .u8 0) 1 1 Try.underlying23 hi hz0 hz1 hz2 rfl (by decide) _ _ _ rfl (HO.out.alloc _) ⟨wr.heap.size, 0, none⟩ 1 1 (bv [x / 281474976710656 % 256]) rfl rfl ?c1 (bv_one _) ?c3 ?c4 ?c5 ?_)
      case c1 => exact new_cells [x / 281474976710656 % 256] wr _
      case c3 => unfold maxLen; omega
      case c4 => omega
      case c5 => simp; omega
      intro v1 w1 ho hg hn2
      have HO1 : Hid (w1.ownsRow B 5 1 v1 (n + (q + 1)) (xs ++ bv (ys ++ [x / 281474976710656 % 256]))) := Lib.hid (own_eq ho (by simp [bv]) (by omega))
      have HB1 := Lib.hid (HB.out.trans (((Below.refl B wr).alloc (by omega) _).trans (below_grown (by simp; omega) (HO.out.alloc _) hg)))
      have HK1 := Lib.hid (KeptT.trans hkw HK.out (KeptT.trans (al_le wr _) (KeptT.alloc wr _) (KeptT.own (HO.out.alloc _) hg)))
      have HY1 : Hid ((ys ++ [x / 281474976710656 % 256]) ++ be 6 x = be k x) := Lib.hid (by rw [← HY.out]; simp [be])
      clear ho hg hn2 HO HB HY HK
      go_wp2
      go_roundw
      case rel => exact ⟨6, q + 1, _, by omega, rfl, HY1, HO1, HB1, HK1⟩
      case measure => simp [intOf]
    · go_wp2_with (at_builtin; refine wpList_append_own _ rfl _ _ 23 rfl B 5 i0 (.int .u8 0) 1 1 Try.underlying23 hi hz0 hz1 hz2 rfl (by decide) _ _ _ rfl (HO.out.alloc _) ⟨wr.heap.size, 0, none⟩ 1 1 (bv [x / 72057594037927936]) rfl rfl ?c1 (bv_one _) ?c3 ?c4 ?c5 ?_)
      case c1 => exact new_cells [x / 72057594037927936] wr _
      case c3 => unfold maxLen; omega
      case c4 => omega
      case c5 => simp; omega
      intro v1 w1 ho hg hn2
      have HO1 : Hid (w1.ownsRow B 5 1 v1 (n + (q + 1)) (xs ++ bv (ys ++ [x / 72057594037927936]))) := Lib.hid (own_eq ho (by simp [bv]) (by omega))
      have HB1 := Lib.hid (HB.out.trans (((Below.refl B wr).alloc (by omega) _).trans (below_grown (by simp; omega) (HO.out.alloc _) hg)))
      have HK1 := Lib.hid (KeptT.trans hkw HK.out (KeptT.trans (al_le wr _) (KeptT.alloc wr _) (KeptT.own (HO.out.alloc _) hg)))
      have HY1 : Hid ((ys ++ [x / 72057594037927936]) ++ be 7 x = be k x) := Lib.hid (by rw [← HY.out]; simp [be, h56])
      clear ho hg hn2 HO HB HY HK
      go_wp2
      go_roundw
      case rel => exact ⟨7, q + 1, _, by omega, rfl, HY1, HO1, HB1, HK1⟩
      case measure => simp [intOf]
end Go.Proofs.Ytmcmapgllaopmaa.Cd
end
