/- Texts of one's own, merged: CdChk, CdEc, CdOne, CdSameC, CdCm, CdPo, CdBCl, CdTxT, CdTxU, CdTxV. -/
import Derived.Test.YtmcmapgllaopmaaMe

section
namespace Go.Proofs.Ytmcmapgllaopmaa.Cd
open Go.RowKit
set_option linter.unusedVariables false
/-- why some parents may not stand behind others -/
def pwF : List (List Int) → List (List Int) → Int
  | _, [] => 0
  | ahead, p :: r => if cp p ahead = 0 then pwF (ahead ++ [p]) r else cp p ahead
/-- why a commit may not be -/
def wE (tr : List Int) (ids : List (List Int)) (au ms : ByteArray) : Int :=
  if tr = List.replicate 32 0 then 1 else if 8 < ids.length then 4 else if pwF [] ids = 0 then (if 1000 < au.size ∨ 1000 < ms.size then 5 else 0) else pwF [] ids
theorem pwF_step (ids : List (List Int)) (k : Nat) (hk : k < ids.length) : pwF (ids.take k) (ids.drop k) = if cp (ids.getD k []) (ids.take k) = 0 then pwF (ids.take (k + 1)) (ids.drop (k + 1)) else cp (ids.getD k []) (ids.take k) := by
  have hx : ids.getD k [] = ids[k] := by simp [List.getD, hk]
  rw [List.drop_eq_getElem_cons hk, pwF, ← hx, List.take_succ_eq_append_getElem hk, ← hx]
theorem RdIds.take {w : World} {A : Option Addr} {n C : Nat} {l : List (List Int)} (h : RdIds w A n C l) (k : Nat) (hk : k ≤ n) : RdIds w A k C (l.take k) :=
  ⟨by have := h.cap; omega, h.max, by have := h.big; omega, by rw [List.length_take, h.len]; omega, fun x hx => h.ids x (List.mem_of_mem_take hx), fun h0 => by
    obtain ⟨g, o, h1, h2, h3⟩ := h.cell (by omega)
    refine ⟨g, o, h1, h2, fun i hi => ?_⟩
    have : (l.take k).getD i [] = l.getD i [] := by simp [List.getD, hi]
    rw [this]
    exact h3 i (by omega)⟩
/-- a commit's own cells -/
theorem cm_row (w : World) (tr : List Int) (ps : Value) (au : ByteArray) (tm : Int) (ms : ByteArray) (hl : tr.length = 32) : (w.alloc (.cells (cm tr ps au tm ms).toArray 40)).rowIs w.heap.size 40 36 (cmF tr ps au tm ms) := by
  have hr := row_new w (cm tr ps au tm ms).toArray 40
  have hs : (cm tr ps au tm ms).toArray.size = 36 := by rw [List.size_toArray, cm_len _ _ _ _ _ hl]
  rw [hs] at hr
  exact hr.congr (fun j hj => by
    have := cm_get tr ps au tm ms hl j hj
    simp [this])
theorem cm_tree {w : World} {X : Nat} {tr : List Int} {ps : Value} {au : ByteArray} {tm : Int} {ms : ByteArray} (h : w.rowIs X 40 36 (cmF tr ps au tm ms)) (hl : tr.length = 32) : w.rangeAt X 0 (bv tr) := fun j v hj => by
  have hl2 := (List.getElem?_eq_some_iff.1 hj).1
  have hl3 : j < 32 := by rw [bv_len, hl] at hl2; exact hl2
  rw [Nat.zero_add, h.cell (show j < 36 by omega), cmF, if_neg (by omega), if_neg (by omega), if_neg (by omega), if_neg (by omega), ← hj]
  simp [bv, List.getD, show j < tr.length by omega]
theorem row_drew {w : World} {b : Nat} {t : TypeId} {n : Nat} {f : Nat → Value} (h : w.rowIs b t n f) : w.drew.rowIs b t n f := h
set_option maxRecDepth 100000 in
set_option maxHeartbeats 2000000 in
theorem checkCommit_any (tr : List Int) (hl : tr.length = 32) (A : Option Addr) (n C : Nat) (ids : List (List Int)) (au : ByteArray) (tm : Int) (ms : ByteArray) (w : World) (h : RdIds w A n C ids) :
    Calls Try.prog 50 #[.agg (cm tr (.slice A n C) au tm ms).toArray] w fun e w' => e = .returned (.int .i64 (wE tr ids au ms)) ∧ Below w.heap.size w w' := by
  have hX := cm_row w tr (.slice A n C) au tm ms hl
  have hb0 := (Below.refl w.heap.size w).alloc (Nat.le_refl _) (.cells (cm tr (.slice A n C) au tm ms).toArray 40)
  have HI := Lib.hid (h.below hb0)
  have HB := Lib.hid hb0
  have HX := Lib.hid hX
  have hsX := hX.lt
  have HRg := Lib.hid (cm_tree hX hl)
  have HSz := Lib.hid (show (Try.prog.info? 37).map (·.size) = some (bv tr).length by rw [bv_len, hl]; kernel_rfl)
  have hq : ∀ W, (Op.equalIn 10000 37 (.agg (bv tr).toArray) (.agg (bv (List.replicate 32 0)).toArray)).run Try.prog W = .ok (decide (tr = List.replicate 32 0)) W := fun W => ids_none tr hl W
  have hz32 := zero32
  have hcap := h.cap
  have hmax := h.max
  have hbig := h.big
  have HLn := Lib.hid h.len
  have hw0 := wE tr ids au ms
  clear hw0
  have HW := Lib.hid (show wE tr ids au ms = if tr = List.replicate 32 0 then 1 else if 8 < ids.length then 4 else if pwF [] ids = 0 then (if 1000 < au.size ∨ 1000 < ms.size then 5 else 0) else pwF [] ids from rfl)
  clear hX hb0 h
  generalize hZI : (bv (List.replicate 32 0)).toArray = ZI at *
  have HZI := Lib.hid hZI
  clear hZI
  have hZl : ZI.size = 32 := by rw [← HZI.out]; simp [bv]
  have HZl := Lib.hid hZl
  clear hZl
  have hc32 : (w.alloc (.cells (cm tr (.slice A n C) au tm ms).toArray 40)).cell? ⟨w.heap.size, 32, none⟩ = some (.slice A n C) := HX.out.cell (i := 32) (by omega)
  have hc33 : (w.alloc (.cells (cm tr (.slice A n C) au tm ms).toArray 40)).cell? ⟨w.heap.size, 33, none⟩ = some (.string au) := HX.out.cell (i := 33) (by omega)
  have hc35 : (w.alloc (.cells (cm tr (.slice A n C) au tm ms).toArray 40)).cell? ⟨w.heap.size, 35, none⟩ = some (.string ms) := HX.out.cell (i := 35) (by omega)
  generalize hCM : cm tr (.slice A n C) au tm ms = CM at *
  clear hCM
  generalize hDI : bv tr = DI at *
  clear hDI
  go_enter Try.func50, Try.ntmps50
  have hag : (Value.agg CM.toArray).cells = CM.toArray := rfl
  go_upto_region 1 with (fail)
  generalize w.alloc (.cells CM.toArray 40) = w1 at *
  obtain ⟨X, hX⟩ : ∃ X, X = w.heap.size := ⟨_, rfl⟩
  rw [← hX] at HX HRg hsX hc32 hc33 hc35 HB ⊢
  have HXw := Lib.hid hX
  clear hX
  by_cases hz0 : tr = List.replicate 32 0
  · rw [decide_eq_true hz0] at hq
    have hw := HW.out
    rw [if_pos hz0] at hw
    have HW3 := Lib.hid hw
    clear hz0 HW hw
    go_wp2_with (refine wpList_load_mid rfl _ _ rfl X 0 rfl DI _ HRg.out Try.underlying37 rfl HSz.out ?_)
    go_ret
    exact ⟨by rw [HW3.out]; rfl, by rw [← HXw.out]; exact HB.out⟩
  · rw [decide_eq_false hz0] at hq
    by_cases h8 : 8 < n
    · have hw := HW.out
      rw [if_neg hz0, if_pos (by rw [HLn.out]; exact h8)] at hw
      have hd : decide ((8 : Int) < (n : Int)) = true := by simp; omega
      have HW3 := Lib.hid hw
      clear hz0 HW hw
      go_wp2_with (refine wpList_load_mid rfl _ _ rfl X 0 rfl DI _ HRg.out Try.underlying37 rfl HSz.out ?_)
      go_ret
      exact ⟨by rw [HW3.out]; rfl, by rw [← HXw.out]; exact HB.out⟩
    · have hw := HW.out
      rw [if_neg hz0, if_neg (by rw [HLn.out]; exact h8)] at hw
      have HW2 := Lib.hid hw
      have hd : decide ((8 : Int) < (n : Int)) = false := by simp; omega
      clear hz0 HW hw
      go_wp2_with (refine wpList_load_mid rfl _ _ rfl X 0 rfl DI _ HRg.out Try.underlying37 rfl HSz.out ?_)
      clear hc32 hc33 hc35 hq HRg
      go_loopw [19] (fun s wr => ∃ k : Nat, s = .int .i64 k ∧ k ≤ n ∧ Hid (pwF (ids.take k) (ids.drop k) = pwF [] ids) ∧ Hid (RdIds wr A n C ids) ∧ Hid (wr.rowIs X 40 36 (cmF tr (.slice A n C) au tm ms)) ∧ Hid (Below X w wr)) (fun s _ => n - (intOf s).toNat)
      case atStart => exact ⟨0, rfl, Nat.zero_le _, Lib.hid rfl, HI, HX, HB⟩
      case round =>
        clear HI HX HB
        obtain ⟨k, rfl, hk, HF, HI, HX, HB⟩ := hrel
        have hXw : X < wr.heap.size := HX.out.lt
        by_cases hlt : k < n
        · obtain ⟨g, o, rfl, hg, hc⟩ := HI.out.cell (by omega)
          have hst := pwF_step ids k (by have := HLn.out; omega)
          rw [HF.out] at hst
          have hpl := HI.out.ids _ (getD_mem (k := k) (by have := HLn.out; omega))
          have hpr := hc k hlt
          obtain ⟨p, hp⟩ : ∃ p, p = ids.getD k [] := ⟨_, rfl⟩
          rw [← hp] at hst hpl hpr
          have Hpl := Lib.hid hpl
          have HSt := Lib.hid hst
          have HPr := Lib.hid hpr
          have HES : Hid ((Try.prog.info? 37).map (·.size) = some (bv p).length) := Lib.hid (by rw [bv_len, hpl]; kernel_rfl)
          have hyr := row_new wr ZI 37
          rw [HZl.out] at hyr
          have HTh : Hid ((wr.alloc (.cells ZI 37)).there wr.heap.size 0 (bv p).toArray.size) := Lib.hid (fun j hj => by
            rw [List.size_toArray, bv_len, hpl] at hj
            rw [Nat.zero_add]
            exact ⟨by rw [hyr.cell hj]; rfl, hyr.frozen _⟩)
          have HSz2 : Hid ((Try.prog.info? 37).map (·.size) = some (bv p).toArray.size) := Lib.hid (by rw [List.size_toArray]; exact HES.out)
          have HOne := Lib.hid (all_oneCell_toArray (bv_one p))
          have HRy : Hid (((wr.alloc (.cells ZI 37)).setCells wr.heap.size 0 (bv p)).rangeAt wr.heap.size 0 (bv p)) := Lib.hid (World.rangeAt_setCells_same _ _ _ _ (by have := HTh.out; rwa [List.size_toArray] at this))
          have hb4 := below_cells (Nat.le_refl wr.heap.size) (bv p) 0 _ ((Below.refl wr.heap.size wr).alloc (Nat.le_refl _) (.cells ZI 37))
          have HI4 := Lib.hid (HI.out.below hb4)
          have HX4 := Lib.hid (World.rowIs.of_block HX.out (hb4.block X hXw))
          have HB4 := Lib.hid (HB.out.trans (hb4.mono (Nat.le_of_lt hXw)))
          have hYs : wr.heap.size < ((wr.alloc (.cells ZI 37)).setCells wr.heap.size 0 (bv p)).heap.size := HRy.out.lt_of (by rw [bv_len, hpl]; decide)
          have hk0 : (0 : Int) ≤ (k : Int) := by omega
          have hk1 : (k : Int) < (n : Int) := by omega
          have hkC : k ≤ C := by omega
          have hkC2 : (k : Int) ≤ (C : Int) := by omega
          clear hyr hb4 hst hpl hpr hp hc HF HI HX HB hg
          go_upto_region 8 with (first
            | (refine wpList_load_mid rfl _ _ rfl g (o + k * 32) rfl (bv p) _ HPr.out Try.underlying37 rfl HES.out ?_)
            | (refine wpList_store_mid rfl _ _ _ rfl wr.heap.size 0 (bv p).toArray rfl rfl HTh.out HSz2.out HOne.out ?_))
          change Code.wp _ _ _ _ ((wr.alloc (.cells ZI 37)).setCells wr.heap.size 0 (bv p))
          clear HTh HSz2 HOne HPr
          generalize (wr.alloc (.cells ZI 37)).setCells wr.heap.size 0 (bv p) = w4 at *
          generalize wr.heap.size = Y at *
          have HIt : Hid (RdIds w4.drew (some ⟨g, o, none⟩) k C (ids.take k)) := Lib.hid (by
            have h := HI4.out.take k hk
            exact ⟨h.cap, h.max, h.big, h.len, h.ids, h.cell⟩)
          have dX := Lib.hid ((World.rangeAt_drew _ _ _ _).2 HRy.out)
          have dR := Lib.hid (row_drew HX4.out)
          have dI : Hid (RdIds w4.drew (some ⟨g, o, none⟩) n C ids) := Lib.hid ⟨HI4.out.cap, HI4.out.max, HI4.out.big, HI4.out.len, HI4.out.ids, HI4.out.cell⟩
          have dB := Lib.hid HB4.out.drew
          have dC : Hid (w4.drew.cell? ⟨X, 32, none⟩ = some (.slice (some ⟨g, o, none⟩) n C)) := Lib.hid (dR.out.cell (i := 32) (by omega))
          have hYd : Y < w4.drew.heap.size := hYs
          clear HI4 HX4 HB4 HRy hYs
          refine wp_region_noPanic ?_
          refine wp_region_held_drew (S := (fun wS => wS.rangeAt Y 0 (bv p) ∧ wS.cell? ⟨X, 32, none⟩ = some (.slice (some ⟨g, o, none⟩) n C))) (by kernel_rfl) ?_ (fun hHeld => ?_)
          · ((try dsimp only); exact ⟨dX.out, dC.out⟩)
          refine' wpAnyH_take (i := 0) (oi := { dst := some 24, op := Op.load 37 (Operand.tmp 4), type := 37, pos := "commit.go:32", after := #[], guard := none }) (v := _) rfl (by kernel_rfl) (by kernel_rfl) (by kernel_rfl) (fun _ _ _ h => h) (yieldsIf_load_mid (by rfl) _ _ rfl _ _ rfl (bv p) _ (fun w hSw => hSw.1) Try.underlying37 rfl HES.out) (by assumption) ?_
          (try simp only [Act.put, List.setIfInBounds_toArray, List.set_cons_zero, List.set_cons_succ])
          refine wpAnyH_take (i := 1) (oi := { dst := some 25, op := Op.fieldAddr 40 (Operand.tmp 1) 1, type := 0, pos := "commit.go:32", after := #[], guard := none }) (v := ?_) rfl (by kernel_rfl) (by kernel_rfl) (by kernel_rfl) (fun _ _ _ h => h) (Or.inl ⟨by rfl, ?_⟩) (by assumption) ?_
          rotate_left 1
          · ((intro w hSw; (try dsimp only at hSw); go_simp) <;> with_reducible rfl)
          (try simp only [Act.put, List.setIfInBounds_toArray, List.set_cons_zero, List.set_cons_succ])
          refine wpAnyH_take (i := 2) (oi := { dst := some 26, op := Op.load 38 (Operand.tmp 25), type := 38, pos := "commit.go:32", after := #[{ on := 1, ground := Ground.data }], guard := none }) (v := ?_) rfl (by kernel_rfl) (by kernel_rfl) (by kernel_rfl) (fun _ _ _ h => h) (Or.inl ⟨by rfl, ?_⟩) (by assumption) ?_
          rotate_left 1
          · ((intro w hSw; (try dsimp only at hSw); go_simp) <;> with_reducible rfl)
          (try simp only [Act.put, List.setIfInBounds_toArray, List.set_cons_zero, List.set_cons_succ])
          refine wpAnyH_take (i := 3) (oi := { dst := some 27, op := Op.move (Operand.tmp 3), type := 3, pos := "commit.go:32", after := #[], guard := none }) (v := ?_) rfl (by kernel_rfl) (by kernel_rfl) (by kernel_rfl) (fun _ _ _ h => h) (Or.inl ⟨by rfl, ?_⟩) (by assumption) ?_
          rotate_left 1
          · ((intro w hSw; (try dsimp only at hSw); go_simp) <;> with_reducible rfl)
          (try simp only [Act.put, List.setIfInBounds_toArray, List.set_cons_zero, List.set_cons_succ])
          refine wpAnyH_take (i := 4) (oi := { dst := some 28, op := Op.slice 38 (Operand.tmp 26) none (some (Operand.tmp 27)) none, type := 38, pos := "commit.go:32", after := #[{ on := 2, ground := Ground.data }, { on := 3, ground := Ground.data }], guard := none }) (v := ?_) rfl (by kernel_rfl) (by kernel_rfl) (by kernel_rfl) (fun _ _ _ h => h) (Or.inl ⟨by rfl, ?_⟩) (by assumption) ?_
          rotate_left 1
          · ((intro w hSw; (try dsimp only at hSw); go_simp) <;> with_reducible rfl)
          (try simp only [Act.put, List.setIfInBounds_toArray, List.set_cons_zero, List.set_cons_succ])
          refine wpAnyH_ready (rs := [5]) (by kernel_rfl) (by simp) ?_
          refine AllReadyH.cons (o := { dst := some 29, op := Op.call { callee := Callee.value (Operand.func 87), args := #[Operand.tmp 24, Operand.tmp 28], argTypes := #[37, 38] }, type := 25, pos := "commit.go:32", after := #[{ on := 0, ground := Ground.data }, { on := 4, ground := Ground.data }], guard := none }) rfl (fun K hK => ?_) ?_
          · go_simp
            refine (parent_any p Hpl.out (some ⟨g, o, none⟩) k C (ids.take k) _ HIt.out).mono ?_
            rintro e w7 ⟨rfl, hb7⟩
            have eX := Lib.hid (range_below hb7 dX.out hYd)
            have eR := Lib.hid (World.rowIs.of_block dR.out (hb7.block X dR.out.lt))
            have eI := Lib.hid (dI.out.below hb7)
            have eB := Lib.hid (dB.out.trans (hb7.mono (Nat.le_of_lt dR.out.lt)))
            have eC : Hid (w7.cell? ⟨X, 32, none⟩ = some (.slice (some ⟨g, o, none⟩) n C)) := Lib.hid (eR.out.cell (i := 32) (by omega))
            clear dX dR dI dB dC hb7 hYd
            have dX := eX
            have dR := eR
            have dI := eI
            have dB := eB
            have dC := eC
            clear eX eR eI eB eC
            (try go_wp2_with fail)
            refine hK.out _ _ ?_ (fun hNew => ?_)
            · ((try dsimp only); exact ⟨dX.out, dC.out⟩)
            clear hK K hHeld
            have hHeld := hNew
            clear hNew
            (try simp only [Act.put, List.setIfInBounds_toArray, List.set_cons_zero, List.set_cons_succ])
            refine wpAnyH_take (i := 6) (oi := { dst := some 5, op := Op.assign (Operand.tmp 29), type := 25, pos := "commit.go:32", after := #[{ on := 5, ground := Ground.data }, { on := 5, ground := Ground.chain }, { on := 0, ground := Ground.phase }, { on := 1, ground := Ground.phase }, { on := 2, ground := Ground.phase }, { on := 3, ground := Ground.phase }, { on := 4, ground := Ground.phase }, { on := 5, ground := Ground.phase }], guard := none }) (v := ?_) rfl (by kernel_rfl) (by kernel_rfl) (by kernel_rfl) (fun _ _ _ h => h) (Or.inl ⟨by rfl, ?_⟩) (by assumption) ?_
            rotate_left 1
            · ((intro w hSw; (try dsimp only at hSw); go_simp) <;> with_reducible rfl)
            (try simp only [Act.put, List.setIfInBounds_toArray, List.set_cons_zero, List.set_cons_succ])
            refine wpAnyH_done (by kernel_rfl) ?_ _
            refine NoPanic.normal ?_
            clear hHeld
            obtain ⟨E, hE⟩ : ∃ E, E = cp p (ids.take k) := ⟨_, rfl⟩
            have hst := HSt.out
            rw [← hE] at hst ⊢
            by_cases h0 : E = 0
            · have hE0 : (E != 0) = false := by simp [h0]
              rw [if_pos h0] at hst
              have HF2 := Lib.hid hst.symm
              clear hE hst h0 HSt dX dC
              go_wp2_with fail
              go_roundw
              case rel => exact ⟨k + 1, by go_num, by omega, HF2, dI, dR, dB⟩
              case measure => simp [intOf]; omega
            · have hE0 : (E != 0) = true := by simp [h0]
              rw [if_neg h0] at hst
              have hw := HW2.out
              rw [if_neg (by rw [hst]; exact h0), hst] at hw
              have HW3 := Lib.hid hw
              clear hE hst h0 HSt dX dC HW2 hw
              go_wp2_with fail
              go_ret
              exact ⟨by rw [HW3.out]; rfl, by rw [← HXw.out]; exact dB.out⟩
          exact AllReadyH.nil
        · have ek : k = n := by omega
          have hd2 : decide ((k : Int) < (n : Int)) = false := by simp; omega
          have hp0 : pwF [] ids = 0 := by
            rw [← HF.out, ek, List.drop_of_length_le (by rw [HLn.out]; omega)]
            cases ids.take n <;> rfl
          have hw := HW2.out
          rw [if_pos hp0] at hw
          have hc33 : wr.cell? ⟨X, 33, none⟩ = some (.string au) := HX.out.cell (i := 33) (by omega)
          have hc35 : wr.cell? ⟨X, 35, none⟩ = some (.string ms) := HX.out.cell (i := 35) (by omega)
          have HW3 := Lib.hid hw
          clear hp0 HF HI HX ek HW2 hw
          by_cases ha : 1000 < au.size
          · have hda : decide ((1000 : Int) < (au.size : Int)) = true := by simp; omega
            have HA := Lib.hid ha
            clear ha
            go_wp2_with fail
            go_ret
            exact ⟨by rw [HW3.out, if_pos (.inl HA.out)]; rfl, by rw [← HXw.out]; exact HB.out⟩
          · have hda : decide ((1000 : Int) < (au.size : Int)) = false := by simp; omega
            by_cases hm : 1000 < ms.size
            · have hdm : decide ((1000 : Int) < (ms.size : Int)) = true := by simp; omega
              have HM := Lib.hid hm
              clear hm
              go_wp2_with fail
              go_ret
              exact ⟨by rw [HW3.out, if_pos (.inr HM.out)]; rfl, by rw [← HXw.out]; exact HB.out⟩
            · have hdm : decide ((1000 : Int) < (ms.size : Int)) = false := by simp; omega
              have HN := Lib.hid (show ¬ (1000 < au.size ∨ 1000 < ms.size) from fun h => h.elim ha hm)
              clear ha hm
              go_wp2_with fail
              go_ret
              exact ⟨by rw [HW3.out, if_neg HN.out]; rfl, by rw [← HXw.out]; exact HB.out⟩
end Go.Proofs.Ytmcmapgllaopmaa.Cd
end

section
namespace Go.Proofs.Ytmcmapgllaopmaa.Cd
open Go.RowKit
set_option linter.unusedVariables false
/-- a commit's bytes -/
def cmB (tr : List Int) (ids : List (List Int)) (au : ByteArray) (tm : Int) (ms : ByteArray) : List Int :=
  tr ++ (ids.length : Int) :: (ids.flatten ++ (be 2 (au.size : Int) ++ (sv au ++ (be 8 (IntKind.u64.wrap tm) ++ (be 2 (ms.size : Int) ++ sv ms)))))
def ecR (tr : List Int) (ids : List (List Int)) (au : ByteArray) (tm : Int) (ms : ByteArray) : List Int := if wE tr ids au ms = 0 then cmB tr ids au tm ms else []
/-- what EncodeCommit hands back -/
def EcRet (tr : List Int) (ids : List (List Int)) (au : ByteArray) (tm : Int) (ms : ByteArray) (w : World) (e : Ending) (w' : World) : Prop :=
  Below w.heap.size w w' ∧ ∃ v, e = .returned (.tuple #[v, .int .i64 (wE tr ids au ms)]) ∧ w'.ownsRow w.heap.size 5 1 v (ecR tr ids au tm ms).length (bv (ecR tr ids au tm ms))
theorem wE_zero {tr : List Int} {ids : List (List Int)} {au ms : ByteArray} (h : wE tr ids au ms = 0) : ids.length ≤ 8 ∧ au.size ≤ 1000 ∧ ms.size ≤ 1000 := by
  unfold wE at h
  by_cases h1 : tr = List.replicate 32 0
  · rw [if_pos h1] at h; exact absurd h (by decide)
  · rw [if_neg h1] at h
    by_cases h2 : 8 < ids.length
    · rw [if_pos h2] at h; exact absurd h (by decide)
    · rw [if_neg h2] at h
      by_cases h3 : pwF [] ids = 0
      · rw [if_pos h3] at h
        by_cases h4 : 1000 < au.size ∨ 1000 < ms.size
        · rw [if_pos h4] at h; exact absurd h (by decide)
        · omega
      · rw [if_neg h3] at h; exact absurd h h3
theorem RdIds.belowB {w w' : World} {A : Option Addr} {n C B : Nat} {l : List (List Int)} (h : RdIds w A n C l) (hb : Below B w w') (hA : ∀ x, A = some x → 0 < n → x.block < B) : RdIds w' A n C l :=
  ⟨h.cap, h.max, h.big, h.len, h.ids, fun h0 => by
    obtain ⟨g, o, h1, h2, h3⟩ := h.cell h0
    exact ⟨g, o, h1, Nat.lt_of_lt_of_le h2 hb.size, fun i hi => range_below hb (h3 i hi) (hA _ h1 h0)⟩⟩
theorem flat_step (ids : List (List Int)) (k : Nat) (hk : k < ids.length) : (ids.take (k + 1)).flatten = (ids.take k).flatten ++ ids.getD k [] := by
  have hx : ids.getD k [] = ids[k] := by simp [List.getD, hk]
  rw [List.take_succ_eq_append_getElem hk, hx, List.flatten_append]
  simp only [List.flatten_cons, List.flatten_nil, List.append_nil]
theorem flat_len : ∀ (l : List (List Int)), (∀ x ∈ l, x.length = 32) → l.flatten.length = l.length * 32
  | [], _ => rfl
  | x :: l, h => by
    rw [List.flatten_cons, List.length_append, h x (by simp), flat_len l (fun y hy => h y (List.mem_cons_of_mem _ hy)), List.length_cons]
    omega
theorem own_none' (w : World) (B : Nat) : w.ownsRow B 5 1 (.slice none 0 0) 0 (bv []) := ⟨rfl, .inl ⟨rfl, rfl⟩⟩
theorem cm_range {w : World} {X : Nat} {tr : List Int} {ps : Value} {au : ByteArray} {tm : Int} {ms : ByteArray} (h : w.rowIs X 40 36 (cmF tr ps au tm ms)) (hl : tr.length = 32) : w.rangeAt X 0 (cm tr ps au tm ms) := fun j v hj => by
  have hl2 := (List.getElem?_eq_some_iff.1 hj).1
  rw [cm_len _ _ _ _ _ hl] at hl2
  rw [Nat.zero_add, h.cell hl2, ← hj, cm_get tr _ _ _ _ hl j hl2]
set_option maxRecDepth 100000 in
set_option maxHeartbeats 2000000 in
theorem encodeCommit_any (tr : List Int) (hl : tr.length = 32) (A : Option Addr) (n C : Nat) (ids : List (List Int)) (au : ByteArray) (tm : Int) (ms : ByteArray) (w : World) (h : RdIds w A n C ids) :
    Calls Try.prog 17 #[.agg (cm tr (.slice A n C) au tm ms).toArray] w (EcRet tr ids au tm ms w) := by
  obtain ⟨i0, hi, hz0, hz1, hz2⟩ := info_parts info5
  have hX := cm_row w tr (.slice A n C) au tm ms hl
  have hb0 := (Below.refl w.heap.size w).alloc (Nat.le_refl _) (.cells (cm tr (.slice A n C) au tm ms).toArray 40)
  have HLt : Hid (∀ x, A = some x → 0 < n → x.block < w.heap.size) := Lib.hid (fun x hx h0 => by
    obtain ⟨g, o, h1, h2, -⟩ := h.cell h0
    rw [h1] at hx
    obtain rfl := Option.some.inj hx
    exact h2)
  have HI := Lib.hid (h.below hb0)
  have HB := Lib.hid hb0
  have HX := Lib.hid hX
  have HRg := Lib.hid (cm_range hX hl)
  have HSz := Lib.hid (show (Try.prog.info? 40).map (·.size) = some (cm tr (.slice A n C) au tm ms).length by rw [cm_len _ _ _ _ _ hl]; kernel_rfl)
  have HCk := Lib.hid (checkCommit_any tr hl A n C ids au tm ms _ (h.below hb0))
  have hcap := h.cap
  have hmax := h.max
  have hbig := h.big
  have HLn := Lib.hid h.len
  have HI0 := Lib.hid h.ids
  have hz32 := zero32
  have HTl := Lib.hid hl
  clear hX hb0 h
  generalize hZI : (bv (List.replicate 32 0)).toArray = ZI at *
  have hZl : ZI.size = 32 := by rw [← hZI]; simp [bv]
  have HZl := Lib.hid hZl
  clear hZl hZI
  generalize hCM : cm tr (.slice A n C) au tm ms = CM at *
  clear hCM
  go_enter Try.func17, Try.ntmps17
  have hag : (Value.agg CM.toArray).cells = CM.toArray := rfl
  go_upto_region 1 with (fail)
  generalize w.alloc (.cells CM.toArray 40) = w1 at *
  obtain ⟨X, hX⟩ : ∃ X, X = w.heap.size := ⟨_, rfl⟩
  rw [← hX] at HX HRg HB HLt ⊢
  have HXw := Lib.hid hX
  clear hX hag
  obtain ⟨E, hE⟩ : ∃ E, E = wE tr ids au ms := ⟨_, rfl⟩
  rw [← hE] at HCk
  have HE := Lib.hid hE
  have hXs := HX.out.lt
  clear hE
  go_wp2_with (refine wpList_load_mid rfl _ _ rfl X 0 rfl CM _ HRg.out Try.underlying40 rfl HSz.out ?_)
  refine HCk.out.mono ?_
  rintro e w2 ⟨rfl, hb⟩
  have HI2 := Lib.hid (HI.out.below hb)
  have HB2 := Lib.hid (HB.out.trans (hb.mono (Nat.le_of_lt hXs)))
  have HX2 := Lib.hid (World.rowIs.of_block HX.out (hb.block X hXs))
  clear hb HI HB HX HRg HSz HCk hXs
  by_cases h0 : E = 0
  · have hE0 : (E != 0) = false := by simp [h0]
    have H0 := Lib.hid (HE.out.symm.trans h0)
    have hwz := wE_zero H0.out
    have hn8 : n ≤ 8 := by have := hwz.1; have := HLn.out; omega
    have ha1 := hwz.2.1
    have hm1 := hwz.2.2
    have HT2 : Hid (∀ j u, (bv tr)[j]? = some u → w2.cell? ((⟨X, 0, none⟩ : Addr).add j) = some u) := Lib.hid (fun j u hj => by
      have := cm_tree HX2.out HTl.out j u hj
      rw [Addr.add_mid]
      exact this)
    have HTz : Hid ((bv tr).length = 32 * 1) := Lib.hid (by rw [bv_len, HTl.out])
    have hXB : X ≤ w2.heap.size := Nat.le_of_lt HX2.out.lt
    clear h0 hwz
    go_wp2_with (at_builtin; refine wpList_append_own _ rfl _ _ 23 rfl X 5 i0 (.int .u8 0) 1 1 Try.underlying23 hi hz0 hz1 hz2 rfl (by decide) _ 0 (bv []) rfl (own_none' w2 X) ⟨X, 0, none⟩ 32 32 (bv tr) rfl HTz.out HT2.out (bv_one _) ?c3 ?c4 ?c5 ?_)
    case c3 => unfold maxLen; omega
    case c4 => omega
    case c5 => exact hXB
    intro v3 w3 ho hg hnil
    have hb3 := below_grown hXB (own_none' w2 X) hg
    have hk3 := KeptT.own (own_none' w2 X) hg
    have HO3 : Hid (w3.ownsRow X 5 1 v3 32 (bv tr)) := Lib.hid (own_eq ho (by simp [bv]) (by omega))
    have HI3 := Lib.hid (HI2.out.belowB hb3 HLt.out)
    have HX3 := Lib.hid (hk3.row HX2.out (by decide))
    have HB3 := Lib.hid (HB2.out.trans hb3)
    have hX3 : X ≤ w3.heap.size := Nat.le_of_lt HX3.out.lt
    have hc32 : w3.cell? ⟨X, 32, none⟩ = some (.slice A n C) := HX3.out.cell (i := 32) (by omega)
    have hwn : IntKind.u8.wrap (n : Int) = (n : Int) := IntWalk.u8_in _ (by omega)
    clear ho hg hnil hb3 hk3 HI2 HX2 HB2 hXB HT2 HTz
    go_wp2_with (at_builtin; refine wpList_append_own _ rfl _ _ 23 rfl X 5 i0 (.int .u8 0) 1 1 Try.underlying23 hi hz0 hz1 hz2 rfl (by decide) _ 32 (bv tr) rfl (own_keep HO3.out ((Below.refl w3.heap.size w3).alloc (Nat.le_refl _) (.cells (bv [(n : Int)]).toArray 5))) ⟨w3.heap.size, 0, none⟩ 1 1 (bv [(n : Int)]) rfl rfl ?d1 (bv_one _) ?d3 ?d4 ?d5 ?_)
    case d1 => exact new_cells [(n : Int)] w3 _
    case d3 => unfold maxLen; omega
    case d4 => omega
    case d5 => exact Nat.le_trans hX3 (al_le w3 _)
    intro v4 w4 ho hg hnil
    have hoa := own_keep HO3.out ((Below.refl w3.heap.size w3).alloc (Nat.le_refl _) (.cells (bv [(n : Int)]).toArray 5))
    have hb4 : Below X w3 w4 := ((Below.refl X w3).alloc hX3 (.cells (bv [(n : Int)]).toArray 5)).trans (below_grown (Nat.le_trans hX3 (al_le w3 _)) hoa hg)
    have hk4 : KeptT w3 w4 := KeptT.trans (al_le w3 _) (KeptT.alloc w3 _) (KeptT.own hoa hg)
    have HO4 : Hid (w4.ownsRow X 5 1 v4 (33 + 0 * 32) (bv (tr ++ (n : Int) :: (ids.take 0).flatten))) := Lib.hid (own_eq ho (by simp [bv]) (by omega))
    have HI4 := Lib.hid (HI3.out.belowB hb4 HLt.out)
    have HX4 := Lib.hid (hk4.row HX3.out (by decide))
    have HB4 := Lib.hid (HB3.out.trans hb4)
    have hc32 : w4.cell? ⟨X, 32, none⟩ = some (.slice A n C) := HX4.out.cell (i := 32) (by omega)
    clear ho hg hnil hoa hb4 hk4 HI3 HX3 HB3 HO3 hX3
    go_wp2_with fail
    clear hc32
    go_loopw [5, 26] (fun b i wr => ∃ k : Nat, i = .int .i64 k ∧ k ≤ n ∧ Hid (wr.ownsRow X 5 1 b (33 + k * 32) (bv (tr ++ (n : Int) :: (ids.take k).flatten))) ∧ Hid (RdIds wr A n C ids) ∧ Hid (wr.rowIs X 40 36 (cmF tr (.slice A n C) au tm ms)) ∧ Hid (Below X w wr)) (fun _ i _ => n - (intOf i).toNat)
    case atStart => exact ⟨0, rfl, Nat.zero_le _, HO4, HI4, HX4, HB4⟩
    case round =>
      clear HO4 HI4 HX4 HB4
      obtain ⟨k, rfl, hk, HO, HI, HX, HB⟩ := hrel
      have hXw : X < wr.heap.size := HX.out.lt
      by_cases hlt : k < n
      · obtain ⟨g, o, rfl, hg, hc⟩ := HI.out.cell (by omega)
        have hpl := HI.out.ids _ (getD_mem (k := k) (by have := HLn.out; omega))
        have hpr := hc k hlt
        have hfs := flat_step ids k (by have := HLn.out; omega)
        obtain ⟨p, hp⟩ : ∃ p, p = ids.getD k [] := ⟨_, rfl⟩
        rw [← hp] at hpl hpr hfs
        have Hpl := Lib.hid hpl
        have HPr := Lib.hid hpr
        have HFs := Lib.hid hfs
        have HES : Hid ((Try.prog.info? 37).map (·.size) = some (bv p).length) := Lib.hid (by rw [bv_len, hpl]; kernel_rfl)
        have hyr := row_new wr ZI 37
        rw [HZl.out] at hyr
        have HTh : Hid ((wr.alloc (.cells ZI 37)).there wr.heap.size 0 (bv p).toArray.size) := Lib.hid (fun j hj => by
          rw [List.size_toArray, bv_len, hpl] at hj
          rw [Nat.zero_add]
          exact ⟨by rw [hyr.cell hj]; rfl, hyr.frozen _⟩)
        have HSz2 : Hid ((Try.prog.info? 37).map (·.size) = some (bv p).toArray.size) := Lib.hid (by rw [List.size_toArray]; exact HES.out)
        have HOne := Lib.hid (all_oneCell_toArray (bv_one p))
        have hry := World.rangeAt_setCells_same (wr.alloc (.cells ZI 37)) wr.heap.size 0 (bv p) (by have := HTh.out; rwa [List.size_toArray] at this)
        have HRy : Hid (∀ j u, (bv p)[j]? = some u → ((wr.alloc (.cells ZI 37)).setCells wr.heap.size 0 (bv p)).cell? ((⟨wr.heap.size, 0, none⟩ : Addr).add j) = some u) := Lib.hid (fun j u hj => by rw [Addr.add_mid]; exact hry j u hj)
        have hb5 := below_cells (Nat.le_refl wr.heap.size) (bv p) 0 _ ((Below.refl wr.heap.size wr).alloc (Nat.le_refl _) (.cells ZI 37))
        have HO5 := Lib.hid (own_keep HO.out hb5)
        have HI5 := Lib.hid (HI.out.below hb5)
        have HX5 := Lib.hid (World.rowIs.of_block HX.out (hb5.block X hXw))
        have HB5 := Lib.hid (HB.out.trans (hb5.mono (Nat.le_of_lt hXw)))
        have hk0 : (0 : Int) ≤ (k : Int) := by omega
        have hk1 : (k : Int) < (n : Int) := by omega
        have HPz : Hid ((bv p).length = 32 * 1) := Lib.hid (by rw [bv_len, hpl])
        clear hyr hb5 hpl hpr hp hc hry hfs HO HI HX HB hg
        go_upto_region 9 with (first
          | (refine wpList_load_mid rfl _ _ rfl g (o + k * 32) rfl (bv p) _ HPr.out Try.underlying37 rfl HES.out ?_)
          | (refine wpList_store_mid rfl _ _ _ rfl wr.heap.size 0 (bv p).toArray rfl rfl HTh.out HSz2.out HOne.out ?_))
        change Code.wp _ _ _ _ ((wr.alloc (.cells ZI 37)).setCells wr.heap.size 0 (bv p))
        have hX5 : X ≤ ((wr.alloc (.cells ZI 37)).setCells wr.heap.size 0 (bv p)).heap.size := Nat.le_of_lt HX5.out.lt
        clear HTh HSz2 HOne HPr
        generalize (wr.alloc (.cells ZI 37)).setCells wr.heap.size 0 (bv p) = w5 at *
        generalize wr.heap.size = Y at *
        go_wp2_with (at_builtin; refine wpList_append_own _ rfl _ _ 23 rfl X 5 i0 (.int .u8 0) 1 1 Try.underlying23 hi hz0 hz1 hz2 rfl (by decide) _ _ _ rfl HO5.out ⟨Y, 0, none⟩ 32 32 (bv p) rfl HPz.out HRy.out (bv_one _) ?e3 ?e4 ?e5 ?_)
        case e3 => unfold maxLen; omega
        case e4 => omega
        case e5 => exact hX5
        intro v6 w6 ho hg hnil
        have hb6 := below_grown hX5 HO5.out hg
        have hk6 := KeptT.own HO5.out hg
        have HO6 : Hid (w6.ownsRow X 5 1 v6 (33 + (k + 1) * 32) (bv (tr ++ (n : Int) :: (ids.take (k + 1)).flatten))) := Lib.hid (own_eq ho (by rw [HFs.out]; simp [bv]) (by omega))
        have HI6 := Lib.hid (HI5.out.belowB hb6 HLt.out)
        have HX6 := Lib.hid (hk6.row HX5.out (by decide))
        have HB6 := Lib.hid (HB5.out.trans hb6)
        clear ho hg hnil hb6 hk6 HO5 HI5 HX5 HB5 HRy hX5 HPz
        go_wp2_with fail
        go_roundw
        case rel => exact ⟨k + 1, by go_num, by omega, HO6, HI6, HX6, HB6⟩
        case measure => simp [intOf]; omega
      · have ek : k = n := by omega
        have hd2 : decide ((k : Int) < (n : Int)) = false := by simp; omega
        have hd3 : ¬ k < n := hlt
        have hfl : (ids.take k).flatten = ids.flatten := by rw [ek, List.take_of_length_le (by have := HLn.out; omega)]
        have ho0 := HO.out
        rw [hfl] at ho0
        have HO0 := Lib.hid ho0
        have hc33 : wr.cell? ⟨X, 33, none⟩ = some (.string au) := HX.out.cell (i := 33) (by omega)
        have hXl : X ≤ wr.heap.size := Nat.le_of_lt hXw
        have HTa := Lib.hid (text_k X _ (33 + k * 32) (bv (tr ++ (n : Int) :: ids.flatten)) au 2 wr hXl HO0.out (by omega) (by omega) (by omega))
        rw [show ((2 : Nat) : Int) = 2 from rfl] at HTa
        clear hfl ho0 HO ek
        go_wp2_with fail
        refine HTa.out.mono ?_
        rintro e w7 ⟨v7, rfl, ho, hb, hk7⟩
        have HO7 := Lib.hid ho
        have HX7 := Lib.hid (hk7.row HX.out (by decide))
        have HB7 := Lib.hid (HB.out.trans hb)
        have hX7 : X ≤ w7.heap.size := Nat.le_of_lt HX7.out.lt
        have hc34 : w7.cell? ⟨X, 34, none⟩ = some (.int .i64 tm) := HX7.out.cell (i := 34) (by omega)
        have hu0 : 0 ≤ IntKind.u64.wrap tm ∧ IntKind.u64.wrap tm < 18446744073709551616 := by rw [IntKind.wrap_u64]; omega
        have HNb := Lib.hid (number_k X v7 _ _ (IntKind.u64.wrap tm) 8 w7 hX7 HO7.out (by omega) hu0.1 hu0.2 (by omega))
        rw [show ((8 : Nat) : Int) = 8 from rfl] at HNb
        clear ho hb hk7 HTa HO0 HX HB HI hc33 hu0
        go_wp2_with fail
        refine HNb.out.mono ?_
        rintro e w8 ⟨v8, rfl, ho, hb, hk8⟩
        have HO8 := Lib.hid ho
        have HX8 := Lib.hid (hk8.row HX7.out (by decide))
        have HB8 := Lib.hid (HB7.out.trans hb)
        have hX8 : X ≤ w8.heap.size := Nat.le_of_lt HX8.out.lt
        have hc35 : w8.cell? ⟨X, 35, none⟩ = some (.string ms) := HX8.out.cell (i := 35) (by omega)
        have HTm := Lib.hid (text_k X v8 _ _ ms 2 w8 hX8 HO8.out (by omega) (by omega) (by omega))
        rw [show ((2 : Nat) : Int) = 2 from rfl] at HTm
        clear ho hb hk8 HNb HO7 HX7 HB7 hc34
        go_wp2_with fail
        refine HTm.out.mono ?_
        rintro e w9 ⟨v9, rfl, ho, hb, -⟩
        have HR : Hid (ecR tr ids au tm ms = cmB tr ids au tm ms) := Lib.hid (by unfold ecR; rw [if_pos H0.out])
        have HLc : Hid ((cmB tr ids au tm ms).length = 33 + k * 32 + 2 + au.size + 8 + 2 + ms.size) := Lib.hid (by
          have hfl := flat_len ids HI0.out
          have h1 := HTl.out
          have h2 := HLn.out
          simp only [cmB, List.length_append, List.length_cons, hfl, be_length, sv_len]
          omega)
        have HO9 : Hid (w9.ownsRow X 5 1 v9 (cmB tr ids au tm ms).length (bv (cmB tr ids au tm ms))) := Lib.hid (own_eq ho (by rw [← sv_cells, ← sv_cells]; simp [cmB, bv, HLn.out]) (by rw [HLc.out]))
        have HB9 := Lib.hid (HB8.out.trans hb)
        clear ho hb HTm HO8 HX8 HB8 hc35
        go_wp2_with fail
        go_ret2
        refine ⟨by rw [← HXw.out]; exact HB9.out, v9, ?_, ?_⟩
        · rw [H0.out]; rfl
        · rw [HR.out, ← HXw.out]; exact HO9.out
  · have hE0 : (E != 0) = true := by simp [h0]
    have H0 : Hid (ecR tr ids au tm ms = []) := Lib.hid (by unfold ecR; rw [if_neg (fun e => h0 (HE.out.trans e))])
    clear h0
    go_wp2_with fail
    go_ret2
    refine ⟨by rw [← HXw.out]; exact HB2.out, .slice none 0 0, ?_, ?_⟩
    · rw [← HE.out]; rfl
    · rw [H0.out]; exact own_nil _ _
end Go.Proofs.Ytmcmapgllaopmaa.Cd
end

section
namespace Go.Proofs.Ytmcmapgllaopmaa.Cd
open Go.RowKit
set_option linter.unusedVariables false
/-- the bytes told: none where there is an error -/
def eR (es : List Fr.Ent) : List Int := if eE es = 0 then eB es else []
theorem et_one {es : List Fr.Ent} {w : World} {e : Ending} {w' : World} (h : EtRet es w e w') : Below w.heap.size w w' ∧ ∃ v, e = .returned (.tuple #[v, .int .i64 (eE es)]) ∧ w'.ownsRow w.heap.size 5 1 v (eR es).length (bv (eR es)) := by
  obtain ⟨hb, ⟨hne, rfl⟩ | ⟨hz, v, rfl, ho⟩⟩ := h
  · refine ⟨hb, _, rfl, ?_⟩
    unfold eR
    rw [if_neg hne]
    exact own_nil _ _
  · refine ⟨hb, v, by rw [hz], ?_⟩
    unfold eR
    rw [if_pos hz]
    exact ho
theorem tkL_len (f : Int) (l : List Int) (a L n : Nat) : (tkL f l a L n).length ≤ l.length := by
  unfold tkL
  split
  · rw [List.length_take, List.length_drop]; omega
  · simp
theorem pT_err (l : List Int) (L : Nat) : ∀ (n p : Nat) (es : List Fr.Ent), (pT l L n p es).1 ≠ 0 → (pT l L n p es).2 = []
  | 0, p, es, h => by rw [pT] at h; exact absurd rfl h
  | n + 1, p, es, h => by
    rw [pT] at h ⊢
    by_cases h1 : p = L
    · rw [if_pos h1] at h; exact absurd rfl h
    · rw [if_neg h1] at h ⊢
      by_cases h2 : rdF l p L es.length (lastN es) = 0
      · rw [if_pos h2] at h ⊢
        exact pT_err l L n _ _ h
      · rw [if_neg h2]
theorem pT_ok (l : List Int) (L : Nat) : ∀ (n p : Nat) (es : List Fr.Ent), es.length ≤ 512 → (∀ x ∈ es, x.name.size ≤ l.length) → (pT l L n p es).2.length ≤ 512 ∧ ∀ x ∈ (pT l L n p es).2, x.name.size ≤ l.length
  | 0, p, es, h, hx => by rw [pT]; exact ⟨h, hx⟩
  | n + 1, p, es, h, hx => by
    rw [pT]
    by_cases h1 : p = L
    · rw [if_pos h1]; exact ⟨h, hx⟩
    · rw [if_neg h1]
      by_cases h2 : rdF l p L es.length (lastN es) = 0
      · rw [if_pos h2]
        have h3 := (rd_step h2).2
        refine pT_ok l L n _ _ (by rw [List.length_append, List.length_singleton]; omega) (fun x hm => ?_)
        rcases List.mem_append.1 hm with hm | hm
        · exact hx x hm
        · rw [List.mem_singleton.1 hm]
          show (rd1 l p L).nm.size ≤ l.length
          unfold rd1
          rw [sb_size]
          exact tkL_len _ _ _ _ _
      · rw [if_neg h2]
        exact ⟨by simp, by simp⟩
theorem pt_one {l : List Int} {L : Nat} {w : World} {e : Ending} {w' : World} (hl : l.length ≤ 1000000) (h : PtRet l L w e w') : Below w.heap.size w w' ∧ ∃ Ae Ce, e = .returned (.tuple #[.slice Ae (pT l L (L + 1) 0 []).2.length Ce, .int .i64 (pT l L (L + 1) 0 []).1]) ∧ RdE w' Ae (pT l L (L + 1) 0 []).2.length Ce (pT l L (L + 1) 0 []).2 := by
  obtain ⟨hb, ⟨hne, rfl⟩ | ⟨hz, hid, Ae, Ce, rfl, ho⟩⟩ := h
  · refine ⟨hb, none, 0, ?_, ?_⟩
    · rw [pT_err l L _ _ _ hne]; rfl
    · rw [pT_err l L _ _ _ hne]; exact RdE.nil _
  · have hok := pT_ok l L (L + 1) 0 [] (by simp) (by simp)
    refine ⟨hb, Ae, Ce, by rw [hz], RdE.of_own ho (fun x hx => ⟨hid x hx, ?_⟩) (by omega) rfl⟩
    have := hok.2 x hx
    omega
theorem conv_eq (s : ByteArray) : (s.toList == s.toList) = true := by simp
end Go.Proofs.Ytmcmapgllaopmaa.Cd
end

section
namespace Go.Proofs.Ytmcmapgllaopmaa.Cd
open Go.RowKit
set_option linter.unusedVariables false
theorem size_alloc (w : World) (o : Obj) : (w.alloc o).heap.size = w.heap.size + 1 := by show (w.heap.push o).size = w.heap.size + 1; simp
end Go.Proofs.Ytmcmapgllaopmaa.Cd
end

section
namespace Go.Proofs.Ytmcmapgllaopmaa.Cd
open Go.RowKit
set_option linter.unusedVariables false
/-- Ids that came in -/
theorem RdIds.of_ids {w : World} {a : Option Addr} {n cap : Nat} {ids : List (List Int)} (h : Fr.IsIds w a n cap ids) (hn : n ≤ 1000000) : RdIds w a n cap ids := by
  rcases h with ⟨rfl, rfl, rfl, rfl⟩ | ⟨x, rfl, hl, hc, hlen, hcell, hwf⟩
  · exact ⟨Nat.le_refl _, by omega, by omega, rfl, fun x hx => by simp at hx, fun h0 => absurd h0 (by omega)⟩
  · refine ⟨hl, by omega, hn, hlen, fun x hx => (hwf x hx).1, fun h0 => ?_⟩
    have h32 : ((ids.getD 0 []).map (Value.int .u8)).length = 32 := by rw [List.length_map]; exact (hwf _ (getD_mem (by omega))).1
    have hc0 := hcell 0 h0 0 (((ids.getD 0 []).map (Value.int .u8))[0]'(by omega)) (List.getElem?_eq_getElem (by omega))
    obtain ⟨b, off, spot⟩ := x
    have hspot : spot = Option.none := by simpa [Addr.add] using World.cell?_spot hc0
    subst hspot
    refine ⟨b, off, rfl, by simpa [Addr.add] using block_lt_of_cell hc0, fun i hi j v hj => ?_⟩
    have := hcell i hi j v hj
    rw [Addr.add_mid, Addr.add_mid] at this
    exact this
theorem RdIds.nil (w : World) : RdIds w none 0 0 [] := ⟨Nat.le_refl _, by omega, by omega, rfl, fun x hx => by simp at hx, fun h0 => absurd h0 (by omega)⟩
theorem pL_len (l : List Int) (L : Nat) : ∀ (n : Nat) (f : Int) (a : Nat) (ids : List (List Int)), (pL l L n f a ids).2.2.length ≤ ids.length + n
  | 0, f, a, ids => by rw [pL]; exact Nat.le_refl _
  | n + 1, f, a, ids => by
    rw [pL]
    split
    · have := pL_len l L n (fl (tkF f a L 32) (cp (idv (tkL f l a L 32)) ids)) (tkA f a L 32) (ids ++ [idv (tkL f l a L 32)])
      rw [List.length_append, List.length_singleton] at this
      omega
    · simp
theorem pa_len (f : Int) (l : List Int) (a L : Nat) : (pa f l a L).2.2.length ≤ 8 := by
  unfold pa
  by_cases h : 8 < paM f l a L
  · have h2 : pa2 f l a L ≠ 0 := by
      unfold pa2 fl
      rw [if_pos h]
      split
      · decide
      · assumption
    rw [pL_st h2]
    simp
  · have := pL_len l L (paM f l a L) (pa2 f l a L) (tkA f a L 1) []
    rw [List.length_nil] at this
    omega
/-- a commit is laid in a block of its own -/
theorem cm_lay (w : World) (D : List Value) (hl : D.length = 36) (h1 : ∀ v ∈ D, v.oneCell' = true) (ZC : Array Value) (hz : ZC.size = 36) :
    Fin w w.heap.size (w.alloc (.cells ZC 40)) w.heap.size 40 D ∧ ((w.alloc (.cells ZC 40)).setCells w.heap.size 0 D).rangeAt w.heap.size 0 D := by
  have hro := row_new w ZC 40
  rw [hz] at hro
  have hf : Fin w w.heap.size (w.alloc (.cells ZC 40)) w.heap.size 40 D := Fin.mk' hl h1 hro ((Below.refl _ w).alloc (Nat.le_refl _) _) (Nat.le_refl _)
  exact ⟨hf, World.rangeAt_setCells_same _ _ _ _ (by have := hf.there; rwa [List.size_toArray] at this)⟩
end Go.Proofs.Ytmcmapgllaopmaa.Cd
end

section
namespace Go.Proofs.Ytmcmapgllaopmaa.Cd
open Go.RowKit
set_option linter.unusedVariables false
/-- what slices.Clone of bytes hands back -/
def CloneRet (B L : Nat) (l : List Int) (w : World) (e : Ending) (w' : World) : Prop :=
  ∃ A' C', e = .returned (.slice A' L C') ∧ w'.ownsRow B 5 1 (.slice A' L C') L (bv l) ∧ Below w.heap.size w w'
theorem own_lit0 (w : World) : (w.alloc (.cells #[] 5)).ownsRow w.heap.size 5 1 (.slice (some ⟨w.heap.size, 0, none⟩) 0 0) 0 (bv []) :=
  ⟨rfl, .inr ⟨w.heap.size, 0, #[], rfl, Nat.le_refl _, by show (w.heap.push _)[w.heap.size]? = _; simp, Nat.le_refl _, Nat.zero_le _, rfl, rfl⟩⟩
set_option maxRecDepth 100000 in
theorem nil_no (x : Addr) (L C : Nat) (w : World) : (binOp .eql 23 (.slice (some x) L C) (.slice none 0 0)).run Try.prog w = .ok (.bool false) w := by rfl
set_option maxRecDepth 100000 in
theorem nil_yes (L C : Nat) (w : World) : (binOp .eql 23 (.slice none L C) (.slice none 0 0)).run Try.prog w = .ok (.bool true) w := by rfl
set_option maxRecDepth 100000 in
theorem clone_any (A : Option Addr) (L C : Nat) (l : List Int) (w : World) (h : RdB w A L C l) :
    Calls Try.prog 65 #[.slice A L C] w (CloneRet w.heap.size L l w) := by
  have hbig := h.big
  have hc := h.cap
  cases A with
  | none =>
    have hn := h.none rfl
    have hl := h.len
    obtain rfl : L = 0 := by omega
    obtain rfl : l = [] := List.eq_nil_of_length_eq_zero hl
    subst hn
    have HO : Hid (w.ownsRow w.heap.size 5 1 (.slice none 0 0) 0 (bv [])) := Lib.hid (own_none' w _)
    clear h hl
    have hnil := nil_yes 0 0
    go_enter Try.func65, Try.ntmps65
    go_wp2_with fail
    go_ret
    exact ⟨_, _, rfl, HO.out, Below.refl _ _⟩
  | some x =>
    have hb := (Below.refl w.heap.size w).alloc (Nat.le_refl _) (.cells #[] 5)
    have HR := Lib.hid (h.below hb)
    have HB := Lib.hid hb
    have hs := al_le w (.cells #[] 5)
    clear h hb
    have hnil := nil_no x L C
    go_enter Try.func65, Try.ntmps65
    go_wp2_with (refine wpList_append_rd _ rfl _ _ rfl w.heap.size _ 0 [] rfl (own_lit0 w) (some x) L C l rfl HR.out (by omega) hs ?_)
    intro A' C' w2 ho hb2
    have HO := Lib.hid ho
    have HB2 := Lib.hid (HB.out.trans hb2)
    clear ho hb2
    go_wp2_with fail
    go_ret
    exact ⟨_, _, rfl, HO.out, HB2.out⟩
set_option maxRecDepth 100000 in
theorem rest_r (R N : Nat) (t : TypeId) (A : Option Addr) (L C : Nat) (l : List Int) (at' : Nat) (f : Int) (E : Nat → Value) (w : World) (h : Rdr w R N t A L C l at' f E) :
    Calls Try.prog 64 #[.pointer (some ⟨R, 0, none⟩)] w (TakeRet R N t A L C l at' f E (L - at') w) := by
  have hle := h.le
  have hbig := h.rd.big
  have hc0 := h.c0
  have hc1 := h.c1
  have hc0' : w.drew.cell? ⟨R, 0, none⟩ = some (.slice A L C) := h.c0
  have hc1' : w.drew.cell? ⟨R, 1, none⟩ = some (.int .i64 (at' : Int)) := h.c1
  have HT := Lib.hid (take_any R N t A L C l at' f E (L - at') w.drew (h.drewN 1) (by omega))
  have hsub : (L : Int) - (at' : Int) = ((L - at' : Nat) : Int) := by omega
  have hw : IntKind.i64.wrap ((L : Int) - (at' : Int)) = ((L - at' : Nat) : Int) := by rw [hsub]; exact IntWalk.i64_in _ (by omega)
  generalize hD : L - at' = D at *
  clear h hsub
  go_enter Try.func64, Try.ntmps64
  go_wp2_with fail
  refine wp_region_still_tail 11 (by kernel_rfl) (by kernel_rfl) ?_
  simp only [List.take_succ_cons, List.take_zero, List.drop_succ_cons, List.drop_zero]
  repeat still_step
  refine wpStill_nil ?_
  change wpList _ _ _ _ _ w.drew
  clear hc0 hc1
  go_wp2_with fail
  refine HT.out.mono ?_
  rintro e w1 ⟨A', C', rfl, hr, hn, hR, hg⟩
  have HR := Lib.hid hR
  have HRd := Lib.hid hr
  have HN := Lib.hid hn
  have HG : Hid (w.grownBy w1 (some R)) := Lib.hid ⟨hg.os, hg.tape, hg.output, hg.size, hg.block⟩
  clear hR hr hn hg HT
  go_wp2_with fail
  go_ret
  exact ⟨A', C', rfl, HRd.out, HN.out, HR.out, HG.out⟩
/-- the kind of a letter -/
def poK (t : Int) : Int := if t = 98 then 1 else if t = 116 then 2 else if t = 99 then 3 else 0
theorem kind_any (T : Int) (w : World) :
    Calls Try.prog 63 #[.int .u8 T] w fun e w' => e = .returned (.int .i64 (poK T)) ∧ w = w' := by
  by_cases h1 : T = 99
  · subst h1
    go_enter Try.func63, Try.ntmps63
    go_wp2
    go_ret
    exact ⟨rfl, rfl⟩
  · by_cases h2 : T = 116
    · subst h2
      go_enter Try.func63, Try.ntmps63
      go_wp2
      go_ret
      exact ⟨rfl, rfl⟩
    · by_cases h3 : T = 98
      · subst h3
        go_enter Try.func63, Try.ntmps63
        go_wp2
        go_ret
        exact ⟨rfl, rfl⟩
      · have HE : Hid (poK T = 0) := Lib.hid (by unfold poK; rw [if_neg h3, if_neg h2, if_neg h1])
        have d1 : (T == 99) = false := by simp [h1]
        have d2 : (T == 116) = false := by simp [h2]
        have d3 : (T == 98) = false := by simp [h3]
        clear h1 h2 h3
        go_enter Try.func63, Try.ntmps63
        go_wp2
        go_ret
        exact ⟨by rw [HE.out]; rfl, rfl⟩
end Go.Proofs.Ytmcmapgllaopmaa.Cd
end

section
namespace Go.Proofs.Ytmcmapgllaopmaa.Cd
open Go.RowKit
set_option linter.unusedVariables false
set_option maxRecDepth 100000 in
theorem bclone_any (A : Option Addr) (L C : Nat) (l : List Int) (w : World) (h : RdB w A L C l) :
    Calls Try.prog 98 #[.slice A L C] w (CloneRet w.heap.size L l w) := by
  have hbig := h.big
  have hc := h.cap
  cases A with
  | none =>
    have hn := h.none rfl
    have hl := h.len
    obtain rfl : L = 0 := by omega
    obtain rfl : l = [] := List.eq_nil_of_length_eq_zero hl
    subst hn
    have HO : Hid (w.ownsRow w.heap.size 5 1 (.slice none 0 0) 0 (bv [])) := Lib.hid (own_none' w _)
    clear h hl
    have hnil := nil_yes 0 0
    go_enter Try.func98, Try.ntmps98
    go_wp2_with fail
    go_ret
    exact ⟨_, _, rfl, HO.out, Below.refl _ _⟩
  | some x =>
    have hb := (Below.refl w.heap.size w).alloc (Nat.le_refl _) (.cells #[] 5)
    have HR := Lib.hid (h.below hb)
    have HB := Lib.hid hb
    have hs := al_le w (.cells #[] 5)
    clear h hb
    have hnil := nil_no x L C
    go_enter Try.func98, Try.ntmps98
    go_wp2_with (refine wpList_append_rd _ rfl _ _ rfl w.heap.size _ 0 [] rfl (own_lit0 w) (some x) L C l rfl HR.out (by omega) hs ?_)
    intro A' C' w2 ho hb2
    have HO := Lib.hid ho
    have HB2 := Lib.hid (HB.out.trans hb2)
    clear ho hb2
    go_wp2_with fail
    go_ret
    exact ⟨_, _, rfl, HO.out, HB2.out⟩
end Go.Proofs.Ytmcmapgllaopmaa.Cd
end

section
namespace Go.Proofs.Ytmcmapgllaopmaa.Cd
open Go.RowKit
set_option linter.unusedVariables false
def vNm (l : List Int) (L : Nat) (p : Pl) : ByteArray := geT l L p 1 255
def vP1 (l : List Int) (L : Nat) (p : Pl) : Pl := atT l L p 1 255
def vOd (l : List Int) (L : Nat) (p : Pl) : List Int := geI l L (vP1 l L p)
def vP2 (l : List Int) (L : Nat) (p : Pl) : Pl := atN l L (vP1 l L p) 32
def vNw (l : List Int) (L : Nat) (p : Pl) : List Int := geI l L (vP2 l L p)
def vP3 (l : List Int) (L : Nat) (p : Pl) : Pl := atN l L (vP2 l L p) 32
def vWy (l : List Int) (L : Nat) (p : Pl) : ByteArray := geT l L (vP3 l L p) 2 65535
def vP4 (l : List Int) (L : Nat) (p : Pl) : Pl := atT l L (vP3 l L p) 2 65535
def mvP (l : List Int) (L : Nat) (p : Pl) : Mv := ⟨vNm l L p, vOd l L p, vNw l L p, vWy l L p⟩
/-- the moves told, and the place behind -/
def mvL (l : List Int) (L : Nat) : Nat → Pl → List Mv → Pl × List Mv
  | 0, p, ms => (p, ms)
  | n + 1, p, ms => if p.1 = 0 then mvL l L n (vP4 l L p) (ms ++ [mvP l L p]) else (p, ms)
def yK (l : List Int) (L : Nat) (p : Pl) : List Int := geI l L p
def yP1 (l : List Int) (L : Nat) (p : Pl) : Pl := atN l L p 32
def yM (l : List Int) (L : Nat) (p : Pl) : Nat := geN l L (yP1 l L p) 4
def yP2 (l : List Int) (L : Nat) (p : Pl) : Pl := atN l L (yP1 l L p) 4
def yD (l : List Int) (L : Nat) (p : Pl) : List Int := geL l L (yP2 l L p) (yM l L p)
def yP3 (l : List Int) (L : Nat) (p : Pl) : Pl := atN l L (yP2 l L p) (yM l L p)
/-- a conflict's key and bytes -/
abbrev Yp := List Int × List Int
def My.pl (y : My) : Yp := (y.key, y.l)
def ymP (l : List Int) (L : Nat) (p : Pl) : Yp := (yK l L p, yD l L p)
def ymL (l : List Int) (L : Nat) : Nat → Pl → List Yp → Pl × List Yp
  | 0, p, ys => (p, ys)
  | n + 1, p, ys => if p.1 = 0 then ymL l L n (yP3 l L p) (ys ++ [ymP l L p]) else (p, ys)
def xH (l : List Int) (L : Nat) (p : Pl) : Nat := geN l L p 1
def xP1 (l : List Int) (L : Nat) (p : Pl) : Pl := atN l L p 1
def xP2 (l : List Int) (L : Nat) (p : Pl) : Pl := if 3 < xH l L p then (fl (xP1 l L p).1 16, (xP1 l L p).2) else xP1 l L p
def xHh (l : List Int) (L : Nat) (p : Pl) : Bool := xH l L p % 2 == 1
def xHs (l : List Int) (L : Nat) (p : Pl) : Bool := xH l L p / 2 % 2 == 1
def xHd (l : List Int) (L : Nat) (p : Pl) : ByteArray := if xHh l L p = true then geT l L (xP2 l L p) 1 255 else ByteArray.empty
def xP3 (l : List Int) (L : Nat) (p : Pl) : Pl := if xHh l L p = true then atT l L (xP2 l L p) 1 255 else xP2 l L p
def xM (l : List Int) (L : Nat) (p : Pl) : Nat := geN l L (xP3 l L p) 2
def xP4 (l : List Int) (L : Nat) (p : Pl) : Pl := atN l L (xP3 l L p) 2
def xQ (l : List Int) (L : Nat) (p : Pl) : Pl × List Mv := mvL l L (xM l L p) (xP4 l L p) []
def xSq (l : List Int) (L : Nat) (p : Pl) : Sq := if xHs l L p = true then sqP l L (xQ l L p).1 else Sq.nil 0
def xP5 (l : List Int) (L : Nat) (p : Pl) : Pl := if xHs l L p = true then sqE l L (xQ l L p).1 else (xQ l L p).1
def xN (l : List Int) (L : Nat) (p : Pl) : Nat := geN l L (xP5 l L p) 2
def xP6 (l : List Int) (L : Nat) (p : Pl) : Pl := atN l L (xP5 l L p) 2
def xR (l : List Int) (L : Nat) (p : Pl) : Pl × List Yp := ymL l L (xN l L p) (xP6 l L p) []
def xE (l : List Int) (L : Nat) (p : Pl) : Pl := (enF (xR l L p).1.1 (xR l L p).1.2 L, (xR l L p).1.2)
theorem geL_len (l : List Int) (L : Nat) (p : Pl) (n : Nat) : (geL l L p n).length ≤ n := by
  unfold geL tkL
  split
  · rw [List.length_take]; omega
  · simp
theorem geL_byte {l : List Int} {L : Nat} (hl : l.length = L) (hb : ∀ i, i < L → 0 ≤ l.getD i 0 ∧ l.getD i 0 ≤ 255) (p : Pl) (n : Nat) : ∀ i, i < (geL l L p n).length → 0 ≤ (geL l L p n).getD i 0 ∧ (geL l L p n).getD i 0 ≤ 255 := by
  unfold geL tkL
  split
  · intro i hi
    rw [List.length_take, List.length_drop] at hi
    rw [take_getD _ _ _ (by omega)]
    have := hb (p.2 + i) (by omega)
    simpa [List.getD] using this
  · intro i hi; exact absurd hi (by simp)
/-- bytes that lie in blocks of their own, from B on -/
structure DatOk (B : Nat) (w : World) (A : Option Addr) (n C : Nat) (l : List Int) : Prop where
  rd : RdB w A n C l
  blk : ∀ x, A = some x → B ≤ x.block ∧ ∃ cs fr, w.heap[x.block]? = some (.cells cs 5 fr)
section
variable {B : Nat} {w w' : World} {A : Option Addr} {n C : Nat} {l : List Int}
theorem DatOk.lt (h : DatOk B w A n C l) {x : Addr} (hx : A = some x) : B ≤ x.block ∧ x.block < w.heap.size := by
  obtain ⟨h1, cs, fr, h2⟩ := h.blk x hx
  exact ⟨h1, (Array.getElem?_eq_some_iff.1 h2).1⟩
theorem DatOk.same (h : DatOk B w A n C l) (hs : ∀ x, A = some x → w'.heap[x.block]? = w.heap[x.block]?) (hz : w.heap.size ≤ w'.heap.size) : DatOk B w' A n C l :=
  ⟨⟨h.rd.len, h.rd.cap, h.rd.max, h.rd.big, h.rd.none, h.rd.byte, fun x hx => by
    obtain ⟨h1, h2⟩ := h.rd.cell x hx
    refine ⟨fun h0 => Nat.lt_of_lt_of_le (h1 h0) hz, fun i hi => ?_⟩
    rw [← h2 i hi]
    unfold World.cell?
    rw [add_block, hs x hx]⟩, fun x hx => by
    obtain ⟨h1, cs, fr, h2⟩ := h.blk x hx
    exact ⟨h1, cs, fr, by rw [hs x hx, h2]⟩⟩
theorem DatOk.keep (h : DatOk B w A n C l) (hb : Below w.heap.size w w') : DatOk B w' A n C l :=
  h.same (fun x hx => hb.block x.block (h.lt hx).2) hb.size
theorem DatOk.kept {k : Option Nat} (h : DatOk B w A n C l) (hg : w.grownBy w' k) (hk : ∀ x, A = some x → k ≠ some x.block) : DatOk B w' A n C l :=
  h.same (fun x hx => hg.block x.block (h.lt hx).2 (fun e => hk x hx e.symm)) hg.size
theorem DatOk.base {B' : Nat} (h : DatOk B w A n C l) (hB : B' ≤ B) : DatOk B' w A n C l := ⟨h.rd, fun x hx => ⟨Nat.le_trans hB (h.blk x hx).1, (h.blk x hx).2⟩⟩
theorem DatOk.of_own (ho : w.ownsRow B 5 1 (.slice A n C) n (bv l)) (hn : n ≤ 140737488355328) (hb : ∀ i, i < n → 0 ≤ l.getD i 0 ∧ l.getD i 0 ≤ 255) : DatOk B w A n C l := by
  refine ⟨RdB.of_own2 ho hn hb, fun x hx => ?_⟩
  subst hx
  rcases ho.2 with ⟨hv, -⟩ | ⟨g, cap, cur, hv, hg, hh, -⟩
  · cases hv
  · simp only [Value.slice.injEq, Option.some.injEq] at hv
    obtain ⟨rfl, -⟩ := hv
    exact ⟨hg, cur, _, hh⟩
theorem DatOk.ne_row (h : DatOk B w A n C l) {M m : Nat} {t : TypeId} {f : Nat → Value} (hr : w.rowIs M t m f) (ht : t ≠ 5) : ∀ x, A = some x → some M ≠ some x.block := by
  intro x hx e
  obtain ⟨-, cs, fr, h2⟩ := h.blk x hx
  obtain ⟨c, hb, -⟩ := hr
  rw [← Option.some.inj e, hb] at h2
  simp only [Option.some.injEq, Obj.cells.injEq] at h2
  exact ht h2.2.1
theorem DatOk.ne_own (h : DatOk B w A n C l) {B' e' sz' n' : Nat} {v' : Value} {xs' : List Value} (h' : w.ownsRow B' e' sz' v' n' xs') (ht : e' ≠ 5) : ∀ x, A = some x → v'.ownBlock ≠ some x.block := by
  intro x hx e
  obtain ⟨-, cs, fr, h2⟩ := h.blk x hx
  rcases h'.2 with ⟨rfl, -⟩ | ⟨g', cap', cur', rfl, -, hh', -⟩
  · cases e
  · obtain rfl : g' = x.block := by simpa [Value.ownBlock] using e
    rw [hh'] at h2
    simp only [Option.some.injEq, Obj.cells.injEq] at h2
    exact ht h2.2.1
theorem DatOk.drewN (h : DatOk B w A n C l) (k : Nat) : DatOk B (w.drewN k) A n C l := h.same (fun _ _ => rfl) (Nat.le_refl _)
end
/-- a conflict's bytes are one's own, from B on -/
structure MyOk (B : Nat) (w : World) (y : My) : Prop where
  key : y.key.length = 32
  big : y.n ≤ 4294967296
  dat : DatOk B w y.A y.n y.C y.l
theorem MyOk.keep {B : Nat} {w w' : World} {y : My} (h : MyOk B w y) (hb : Below w.heap.size w w') : MyOk B w' y := ⟨h.key, h.big, h.dat.keep hb⟩
theorem MyOk.kept {B : Nat} {k : Option Nat} {w w' : World} {y : My} (h : MyOk B w y) (hg : w.grownBy w' k) (hk : ∀ x, y.A = some x → k ≠ some x.block) : MyOk B w' y := ⟨h.key, h.big, h.dat.kept hg hk⟩
theorem MyOk.base {B B' : Nat} {w : World} {y : My} (h : MyOk B w y) (hB : B' ≤ B) : MyOk B' w y := ⟨h.key, h.big, h.dat.base hB⟩
/-- rows of other types are apart -/
theorem own_ne_own {w : World} {B B' e e' sz sz' n n' : Nat} {v v' : Value} {xs xs' : List Value} {k : Nat} (h : w.ownsRow B e sz v n xs) (h' : w.ownsRow B' e' sz' v' n' xs') (ht : e ≠ e') (hk : v'.ownBlock = some k) : v.ownBlock ≠ some k := by
  intro e1
  rcases h.2 with ⟨rfl, -⟩ | ⟨g, cap, cur, rfl, -, hh, -⟩
  · cases e1
  · rcases h'.2 with ⟨rfl, -⟩ | ⟨g', cap', cur', rfl, -, hh', -⟩
    · cases hk
    · obtain rfl : g = k := by simpa [Value.ownBlock] using e1
      obtain rfl : g' = g := by simpa [Value.ownBlock] using hk
      rw [hh] at hh'
      simp only [Option.some.injEq, Obj.cells.injEq] at hh'
      exact ht hh'.2.1
theorem mvL_len (l : List Int) (L : Nat) : ∀ (n : Nat) (p : Pl) (ms : List Mv), (mvL l L n p ms).2.length ≤ ms.length + n
  | 0, _, _ => by simp [mvL]
  | n + 1, p, ms => by
    unfold mvL
    split
    · refine Nat.le_trans (mvL_len l L n _ _) ?_
      simp; omega
    · simp
theorem ymL_len (l : List Int) (L : Nat) : ∀ (n : Nat) (p : Pl) (ys : List Yp), (ymL l L n p ys).2.length ≤ ys.length + n
  | 0, _, _ => by simp [ymL]
  | n + 1, p, ys => by
    unfold ymL
    split
    · refine Nat.le_trans (ymL_len l L n _ _) ?_
      simp; omega
    · simp
/-- what (*txReader).tx hands back -/
def TxpRet (R : Nat) (A : Option Addr) (L C : Nat) (l : List Int) (p : Pl) (E : Nat → Value) (w : World) (e : Ending) (w' : World) : Prop :=
  At w' R 3 136 A L C l (xE l L p) E ∧ w.grownBy w' (some R) ∧
  ∃ (Am : Option Addr) (Cm : Nat) (At : Option Addr) (Ct : Nat) (Ay : Option Addr) (Cy : Nat) (ys : List My),
    e = .returned (.agg (txV (xHh l L p) (xHd l L p) (.slice Am (xQ l L p).2.length Cm) (xHs l L p) ((xSq l L p).cells (.slice At (xSq l L p).ts.length Ct)) (.slice Ay ys.length Cy)).toArray) ∧
    w'.ownsRow w.heap.size 126 66 (.slice Am (xQ l L p).2.length Cm) (xQ l L p).2.length (mvsV (xQ l L p).2) ∧
    w'.ownsRow w.heap.size 84 33 (.slice At (xSq l L p).ts.length Ct) (xSq l L p).ts.length (tdsV (xSq l L p).ts) ∧
    w'.ownsRow w.heap.size 128 33 (.slice Ay ys.length Cy) ys.length (mysV ys) ∧
    (∀ y ∈ ys, MyOk w.heap.size w' y) ∧ ys.map My.pl = (xR l L p).2
end Go.Proofs.Ytmcmapgllaopmaa.Cd
end

section
namespace Go.Proofs.Ytmcmapgllaopmaa.Cd
open Go.RowKit
set_option linter.unusedVariables false
/-- a text whose length cannot be too much -/
theorem tx2_most {f : Int} {l : List Int} {a L n most : Nat} (h : txM f l a L n ≤ most) : tx2 f l a L n most = tkF f a L n := by unfold tx2; rw [if_neg (by omega)]
end Go.Proofs.Ytmcmapgllaopmaa.Cd
end

section
namespace Go.Proofs.Ytmcmapgllaopmaa.Cd
open Go.RowKit
set_option linter.unusedVariables false
theorem txV_set {hh : Bool} {hd : ByteArray} {mv : Value} {hs : Bool} {sq : List Value} {mm : Value} (hq : sq.length = 70) :
    (∀ b : Bool, (txV hh hd mv hs sq mm).set 0 (.bool b) = txV b hd mv hs sq mm) ∧ (∀ b, (txV hh hd mv hs sq mm).set 1 (.string b) = txV hh b mv hs sq mm) ∧ (∀ v, (txV hh hd mv hs sq mm).set 2 v = txV hh hd v hs sq mm) ∧
    (∀ b : Bool, (txV hh hd mv hs sq mm).set 3 (.bool b) = txV hh hd mv b sq mm) ∧ (∀ v, (txV hh hd mv hs sq mm).set 74 v = txV hh hd mv hs sq v) := by
  refine ⟨fun b => rfl, fun b => rfl, fun v => rfl, fun b => rfl, fun v => ?_⟩
  simp [txV, List.set_append_right, hq]
theorem txV_lay {hh : Bool} {hd : ByteArray} {mv : Value} {hs : Bool} {sq sq' : List Value} {mm : Value} (hq : sq.length = 70) (hx : sq'.length = 70) : layL (txV hh hd mv hs sq mm) 4 sq' = txV hh hd mv hs sq' mm := by
  simp [layL, txV, hx, List.take_append, hq]
theorem txV_get {hh : Bool} {hd : ByteArray} {mv : Value} {hs : Bool} {sq : List Value} {mm : Value} (hq : sq.length = 70) : (txV hh hd mv hs sq mm).getD 74 undef = mm := by
  simp [txV, List.getD, hq]
theorem Ws.new {w W : World} {R O N : Nat} {tX : TypeId} {A : Option Addr} {L C : Nat} {l : List Int} {p : Pl} {E : Nat → Value} {F : Nat → Value} {D : List Value} (hr : At W R 3 136 A L C l p E) (ho : W.rowIs O tX N F) (hg : w.grownBy W (some R)) (hR : R < w.heap.size) (hA : ∀ x, A = some x → 0 < L → x.block < w.heap.size) (hO : w.heap.size ≤ O) (hl : D.length = N) :
    Ws w R O W.heap.size tX N D A L C l p E (W.alloc (.cells D.toArray tX)) := by
  have hb := (Below.refl W.heap.size W).alloc (Nat.le_refl _) (.cells D.toArray tX)
  have hOl := ho.lt
  exact ⟨hr.below hb, hl, row_newL W D tX N hl, ⟨F, ho.of_block (hb.block O hOl)⟩, grown_trans hg ⟨hb.os, hb.tape, hb.output, hb.size, fun i hi _ => hb.block i hi⟩, hR, hA, hO, hOl⟩
set_option maxRecDepth 100000 in
theorem and1 (k : Nat) (h : k < 256) : bits .and .u8 (k : Int) 1 = ((k % 2 : Nat) : Int) := by
  have h2 : ∀ n : _root_.Fin 256, bits .and .u8 (n.val : Int) 1 = ((n.val % 2 : Nat) : Int) := by decide
  exact h2 ⟨k, h⟩
set_option maxRecDepth 100000 in
theorem and2 (k : Nat) (h : k < 256) : bits .and .u8 (k : Int) 2 = ((k / 2 % 2 * 2 : Nat) : Int) := by
  have h2 : ∀ n : _root_.Fin 256, bits .and .u8 (n.val : Int) 2 = ((n.val / 2 % 2 * 2 : Nat) : Int) := by decide
  exact h2 ⟨k, h⟩
theorem sqP_len (l : List Int) (L : Nat) (p : Pl) : (sqP l L p).og.length = 32 ∧ (sqP l L p).cu.length = 32 := by
  unfold sqP
  split
  · exact ⟨by simp [Sq.nil], by simp [Sq.nil]⟩
  · exact ⟨geI_len l L _, geI_len l L _⟩
def mvN (nm : ByteArray) : List Value := Mv.cells ⟨nm, List.replicate 32 0, List.replicate 32 0, ByteArray.empty⟩
theorem mvN_len (nm : ByteArray) : (mvN nm).length = 66 := by simp [mvN, Mv.cells, bv_len]
theorem mvZ_size : mvZ.toArray.size = 66 := by rw [List.size_toArray]; exact rowMv.zl
theorem myZ_size : myZ.toArray.size = 33 := by rw [List.size_toArray]; exact rowMy.zl
theorem zeroMvZ (w : World) : (zeroValue 126).run Try.prog w = .ok (.agg mvZ.toArray) w := by kernel_rfl
theorem zeroMyZ (w : World) : (zeroValue 128).run Try.prog w = .ok (.agg myZ.toArray) w := by kernel_rfl
set_option maxRecDepth 100000 in
theorem built_mv (nm : ByteArray) : Try.prog.built 126 [(0, .string nm)] = some (mvN nm).toArray := by rfl
theorem Mv.set65 {nm : ByteArray} {od nw : List Int} {wy wy' : ByteArray} (ho : od.length = 32) (hn : nw.length = 32) : (Mv.cells ⟨nm, od, nw, wy⟩).set 65 (.string wy') = Mv.cells ⟨nm, od, nw, wy'⟩ := by
  simp [Mv.cells, List.set_append_right, bv_len, ho, hn]
theorem Mv.lay {nm : ByteArray} {od nw : List Int} {wy : ByteArray} (ho : od.length = 32) (hn : nw.length = 32) {x : List Int} (hx : x.length = 32) :
    layL (Mv.cells ⟨nm, od, nw, wy⟩) 1 (bv x) = Mv.cells ⟨nm, x, nw, wy⟩ ∧ layL (Mv.cells ⟨nm, od, nw, wy⟩) 33 (bv x) = Mv.cells ⟨nm, od, x, wy⟩ := by
  constructor <;> simp [layL, Mv.cells, bv_len, hx, List.take_append, List.drop_append, ho, hn]
def myN (key : List Int) : List Value := My.cells ⟨key, none, 0, 0, []⟩
theorem built_my : ∀ (key : List Int), key.length = 32 → Try.prog.built 128 [(0, .agg (bv key).toArray)] = some (myN key).toArray
  | [a0, a1, a2, a3, a4, a5, a6, a7, a8, a9, a10, a11, a12, a13, a14, a15, a16, a17, a18, a19, a20, a21, a22, a23, a24, a25, a26, a27, a28, a29, a30, a31], _ => by kernel_rfl
theorem My.set32 {key : List Int} (hk : key.length = 32) (A : Option Addr) (n C : Nat) (l : List Int) : (myN key).set 32 (.slice A n C) = My.cells ⟨key, A, n, C, l⟩ := by
  simp [myN, My.cells, List.set_append_right, bv_len, hk]
theorem own_kept {w w' : World} {B e sz n : Nat} {v : Value} {xs : List Value} {k : Option Nat} (h : w.ownsRow B e sz v n xs) (hg : w.grownBy w' k) (hk : ∀ j, v.ownBlock = some j → k ≠ some j) : w'.ownsRow B e sz v n xs := by
  refine h.kept hg ?_
  cases hv : v.ownBlock with
  | none => exact .inl rfl
  | some j => exact .inr fun e => hk j hv e.symm
theorem own_ne_rowT {w : World} {B e sz n m M : Nat} {v : Value} {xs : List Value} {t : TypeId} {f : Nat → Value} (h : w.ownsRow B e sz v n xs) (hr : w.rowIs M t m f) (ht : t ≠ e) : v.ownBlock ≠ some M := by
  intro e1
  obtain ⟨c, hb, -⟩ := hr
  rcases h.2 with ⟨rfl, -⟩ | ⟨g, cap, cur, rfl, -, hh, -⟩
  · cases e1
  · obtain rfl : g = M := by simpa [Value.ownBlock] using e1
    rw [hh] at hb
    simp only [Option.some.injEq, Obj.cells.injEq] at hb
    exact ht hb.2.1.symm
/-- moves, steps, conflicts' bytes, of one's own, above X -/
structure Ows (X : Nat) (vM : Value) (ms : List Mv) (vT : Value) (ts : List Td) (ys : List My) (W : World) : Prop where
  m : W.ownsRow (X + 1) 126 66 vM ms.length (mvsV ms)
  t : W.ownsRow (X + 1) 84 33 vT ts.length (tdsV ts)
  y : ∀ y ∈ ys, MyOk (X + 1) W y
section
variable {X : Nat} {vM : Value} {ms : List Mv} {vT : Value} {ts : List Td} {ys : List My} {W W' : World}
theorem Ows.belowW (h : Ows X vM ms vT ts ys W) (hb : Below W.heap.size W W') : Ows X vM ms vT ts ys W' :=
  ⟨own_keep h.m hb, own_keep h.t hb, fun y hy => (h.y y hy).keep hb⟩
/-- a change at or below X -/
theorem Ows.low (h : Ows X vM ms vT ts ys W) {k : Nat} (hg : W.grownBy W' (some k)) (hk : k ≤ X) : Ows X vM ms vT ts ys W' :=
  ⟨own_grown h.m hg (fun e => by have := (h.m.lt k e).1; omega), own_grown h.t hg (fun e => by have := (h.t.lt k e).1; omega), fun y hy => (h.y y hy).kept hg (fun x hx e => by have := ((h.y y hy).dat.lt hx).1; have := Option.some.inj e; omega)⟩
/-- a change of a block of a conflict's -/
theorem Ows.mem (h : Ows X vM ms vT ts ys W) {k N : Nat} {f : Nat → Value} (hr : W.rowIs k 128 N f) (hg : W.grownBy W' (some k)) : Ows X vM ms vT ts ys W' :=
  ⟨own_grown h.m hg (own_ne_rowT h.m hr (by decide)), own_grown h.t hg (own_ne_rowT h.t hr (by decide)), fun y hy => (h.y y hy).kept hg ((h.y y hy).dat.ne_row hr (by decide))⟩
/-- a row of conflicts is put behind -/
theorem Ows.app (h : Ows X vM ms vT ts ys W) {B n : Nat} {v : Value} {xs : List Value} (ho : W.ownsRow B 128 33 v n xs) (hg : W.grownBy W' v.ownBlock) : Ows X vM ms vT ts ys W' :=
  ⟨own_kept h.m hg (fun j hj e => own_ne_own h.m ho (by decide) e hj), own_kept h.t hg (fun j hj e => own_ne_own h.t ho (by decide) e hj), fun y hy => (h.y y hy).kept hg ((h.y y hy).dat.ne_own ho (by decide))⟩
theorem Ows.drew (h : Ows X vM ms vT ts ys W) (n : Nat) : Ows X vM ms vT ts ys (W.drewN n) :=
  ⟨⟨h.m.1, h.m.2⟩, ⟨h.t.1, h.t.2⟩, fun y hy => ⟨(h.y y hy).key, (h.y y hy).big, (h.y y hy).dat.drewN n⟩⟩
theorem Ows.snoc (h : Ows X vM ms vT ts ys W) {y : My} (hy : MyOk (X + 1) W y) : Ows X vM ms vT ts (ys ++ [y]) W :=
  ⟨h.m, h.t, fun z hz => by
    rcases List.mem_append.1 hz with hz | hz
    · exact h.y z hz
    · rw [List.mem_singleton.1 hz]; exact hy⟩
end
section
variable {w : World} {R O X : Nat} {tX : TypeId} {N : Nat} {D : List Value} {A : Option Addr} {L C : Nat} {l : List Int} {p : Pl} {E : Nat → Value} {e sz n : Nat} {v : Value} {xs : List Value} {Y : Nat} {tY : TypeId} {NY : Nat} {DY : List Value} {W : World}
theorem Wy.belowW (h : Wy w R O X tX N D A L C l p E e sz n v xs Y tY NY DY W) {W' : World} (hb : Below W.heap.size W W') : Wy w R O X tX N D A L C l p E e sz n v xs Y tY NY DY W' := by
  have hXs := h.ws.hXs
  exact ⟨h.ws.belowB (hb.mono (by omega)), own_keep h.own hb, h.yl, h.ry.of_block (hb.block Y h.ry.lt), h.hY, h.ne⟩
end
/-- the reader's bytes, by places -/
theorem take_p (R N : Nat) (t : TypeId) (A : Option Addr) (L C : Nat) (l : List Int) (p : Pl) (E : Nat → Value) (n : Nat) (w : World) (h : At w R N t A L C l p E) (hn : n ≤ 140737488355328) :
    Calls Try.prog 83 #[.pointer (some ⟨R, 0, none⟩), .int .i64 n] w fun e w' => ∃ A' C', e = .returned (.slice A' (geL l L p n).length C') ∧ RdB w' A' (geL l L p n).length C' (geL l L p n) ∧ At w' R N t A L C l (atN l L p n) E ∧ w.grownBy w' (some R) := by
  refine (take_any R N t A L C l p.2 p.1 E n w h hn).mono ?_
  rintro e w' ⟨A', C', he, h1, -, h2, h3⟩
  exact ⟨A', C', he, h1, h2, h3⟩
theorem end_p (R N : Nat) (t : TypeId) (A : Option Addr) (L C : Nat) (l : List Int) (p : Pl) (E : Nat → Value) (w : World) (h : At w R N t A L C l p E) :
    Calls Try.prog 90 #[.pointer (some ⟨R, 0, none⟩)] w fun e w' => e = .returned (.tuple #[]) ∧ At w' R N t A L C l (enF p.1 p.2 L, p.2) E ∧ w.grownBy w' (some R) :=
  end_any R N t A L C l p.2 p.1 E w h
end Go.Proofs.Ytmcmapgllaopmaa.Cd
end
